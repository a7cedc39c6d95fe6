/-
  The document's Whole.
  The document's YAML: plain mathematics, nothing of the program.
  Package yaml: what a text is made of; plain keys.
  Package jlex's Whole, and the document's.
-/
import Derived.Test.YthhdadfnkdjmkaaGreatDoorCat09
import Derived.IntWalk
import Derived.Deep.DeepCutAuto
import Derived.Deep.CutRange
import Derived.Deep.CutBlock
import Derived.Test.YthhdadfnkdjmkaaGreatDoorCat05
import Derived.Test.YthhdadfnkdjmkaaGreatDoorCat03
import Derived.Test.YthhdadfnkdjmkaaGreatDoorCat07
namespace Go.Proofs.YthhdadfnkdjmkaaGreatDoor
open Go.ChangeShapes Go.WideShapes Go.ChangeAt Go.RowKit
set_option linter.unusedVariables false
attribute [local go_sem ↓] Go.wp_at_zero Go.wp_at_succ
variable {w : World}

theorem rdigit_any (c : UInt8) (w : World) : Calls Tryz.prog 118 #[.int .u8 (c.toNat : Int)] w fun e w' => e = .returned (.bool (digB c)) ∧ w = w' := by
  by_cases h0 : 48 ≤ c.toNat
  · by_cases h1 : c.toNat ≤ 57
    · have a0 : (48 : Int) ≤ (c.toNat : Int) := by omega
      have a1 : (c.toNat : Int) ≤ 57 := by omega
      have H : Hid (digB c = true) := (digB_iff c).2 ⟨h0, h1⟩
      clear h0 h1
      go_enter Tryz.func118, Tryz.ntmps118
      go_wp2
      go_ret
      exact ⟨by rw [H.out]; rfl, rfl⟩
    · have a0 : (48 : Int) ≤ (c.toNat : Int) := by omega
      have a1 : ¬ (c.toNat : Int) ≤ 57 := by omega
      have H : Hid (digB c = false) := by rw [Hid, digB]; simp; omega
      clear h0 h1
      go_enter Tryz.func118, Tryz.ntmps118
      go_wp2
      go_ret
      exact ⟨by rw [H.out]; rfl, rfl⟩
  · have a0 : ¬ (48 : Int) ≤ (c.toNat : Int) := by omega
    have H : Hid (digB c = false) := by rw [Hid, digB]; simp; omega
    clear h0
    go_enter Tryz.func118, Tryz.ntmps118
    go_wp2
    go_ret
    exact ⟨by rw [H.out]; rfl, rfl⟩
def mostP : List UInt8 := [57, 50, 50, 51, 51, 55, 50, 48, 51, 54, 56, 53, 52, 55, 55, 53, 56, 48, 55]
def mostM : List UInt8 := [57, 50, 50, 51, 51, 55, 50, 48, 51, 54, 56, 53, 52, 55, 55, 53, 56, 48, 56]
theorem mostP_num : num mostP = 9223372036854775807 := by decide +kernel
theorem mostM_num : num mostM = 9223372036854775808 := by decide +kernel
theorem mostP_dig : ∀ c ∈ mostP, digB c = true := by decide +kernel
theorem mostM_dig : ∀ c ∈ mostM, digB c = true := by decide +kernel
theorem gtr_run (d : ByteArray) (m : List UInt8) (b : Bool) (h : (Op.bytesLess d.data.toList m || d.data.toList == m) = !b) (W : World) : (Op.stringOp .gtr d ⟨m.toArray⟩).run Tryz.prog W = .ok (.bool b) W := by
  have e1 : d.toList = d.data.toList := Lib.toList_data d
  have e2 : (⟨m.toArray⟩ : ByteArray).toList = m := by rw [Lib.toList_data]
  unfold Op.stringOp
  simp only [e1, e2, h, Bool.not_not]
  rfl
/-- What is known of digits that go on. -/
structure Dig (d : ByteArray) (k : Nat) : Prop where
  all : ∀ c ∈ d.data.toList.take k, digB c = true
theorem Dig.none (d : ByteArray) : Dig d 0 := ⟨fun c h => by simp at h⟩
theorem Dig.next {d : ByteArray} {k : Nat} (h : Dig d k) (hk : k < d.size) (hc : digB d[k] = true) : Dig d (k + 1) := ⟨fun c hm => by
  rw [take_snoc d k hk] at hm
  rcases List.mem_append.1 hm with hm | hm
  · exact h.all c hm
  · rw [List.mem_singleton] at hm; subst hm; exact hc⟩
theorem no_digits {d : ByteArray} {k : Nat} (hk : k < d.size) (hc : digB d[k] = false) : digits d.data.toList = false := by
  cases h : digits d.data.toList with
  | false => rfl
  | true =>
    have := ((digits_iff _).1 h).2.1 d[k] (List.getElem_mem (by simpa using hk))
    rw [hc] at this
    cases this
theorem num_take_snoc (d : ByteArray) (k : Nat) (hk : k < d.size) : num (d.data.toList.take (k + 1)) = num (d.data.toList.take k) * 10 + (d[k].toNat - 48) := by
  rw [take_snoc d k hk, num, num, numA_snoc]
set_option maxRecDepth 100000 in
set_option maxHeartbeats 2000000 in
theorem rwhole_minus (d s : ByteArray) (w : World) (hd : d.size ≤ 9000000) (hp : 0 < s.size) (hg : s[0] = 45) (hc : s.extract 1 s.size = d) (hne : s.toList.isEmpty = false) :
    Calls Tryz.prog 88 #[.string s] w fun e w' => e = .returned (.tuple #[.int .i64 (if digits d.data.toList = true ∧ num d.data.toList ≤ 9223372036854775808 then -(num d.data.toList : Int) else 0), .int .i64 (if digits d.data.toList = true then (if num d.data.toList ≤ 9223372036854775808 then 0 else 7) else 12)]) ∧ w = w' := by
  have hX1 : digits d.data.toList = false → (if digits d.data.toList = true ∧ num d.data.toList ≤ 9223372036854775808 then -(num d.data.toList : Int) else (0 : Int)) = 0 ∧ (if digits d.data.toList = true then (if num d.data.toList ≤ 9223372036854775808 then (0 : Int) else 7) else 12) = 12 := fun h => by rw [h]; exact ⟨if_neg (by simp), if_neg (by simp)⟩
  have hX2 : digits d.data.toList = true → ¬ num d.data.toList ≤ 9223372036854775808 → (if digits d.data.toList = true ∧ num d.data.toList ≤ 9223372036854775808 then -(num d.data.toList : Int) else (0 : Int)) = 0 ∧ (if digits d.data.toList = true then (if num d.data.toList ≤ 9223372036854775808 then (0 : Int) else 7) else 12) = 7 := fun h k => ⟨if_neg (fun e => k e.2), by rw [if_pos h, if_neg k]⟩
  have hX3 : digits d.data.toList = true → num d.data.toList ≤ 9223372036854775808 → (if digits d.data.toList = true ∧ num d.data.toList ≤ 9223372036854775808 then -(num d.data.toList : Int) else (0 : Int)) = -(num d.data.toList : Int) ∧ (if digits d.data.toList = true then (if num d.data.toList ≤ 9223372036854775808 then (0 : Int) else 7) else 12) = 0 := fun h k => ⟨if_pos ⟨h, k⟩, by rw [if_pos h, if_pos k]⟩
  generalize (if digits d.data.toList = true ∧ num d.data.toList ≤ 9223372036854775808 then -(num d.data.toList : Int) else (0 : Int)) = v at *
  generalize (if digits d.data.toList = true then (if num d.data.toList ≤ 9223372036854775808 then (0 : Int) else 7) else 12) = x at *
  have HX1 := Lib.hid hX1
  have HX2 := Lib.hid hX2
  have HX3 := Lib.hid hX3
  clear hX1 hX2 hX3
  have hg2 : ((s[0].toNat : Int) == 45) = true := by rw [hg]; rfl
  clear hg
  by_cases h0 : d.size = 0
  · obtain rfl : d = ⟨#[]⟩ := ByteArray.ext (Array.eq_empty_of_size_eq_zero h0)
    have HE := Lib.hid (HX1.out (by rfl))
    clear HX1 HX2 HX3 h0 hd 
    go_enter Tryz.func88, Tryz.ntmps88
    go_wp2
    go_ret2
    exact ⟨by rw [HE.out.1, HE.out.2]; rfl, rfl⟩
  have hpos : 0 < d.size := by omega
  have HD0 : Hid (∀ W, Calls Tryz.prog 118 #[.int .u8 (d[0].toNat : Int)] W fun e w' => e = .returned (.bool (digB d[0])) ∧ W = w') := fun W => rdigit_any d[0] W
  clear HD0
  have hhead : d.data.toList.head? = some d[0] := by
    have h1 := List.drop_eq_getElem_cons (l := d.data.toList) (i := 0) (by simpa using hpos)
    rw [List.drop_zero] at h1
    rw [h1]; rfl
  by_cases hz : d[0].toNat = 48 ∧ 1 < d.size
  · obtain ⟨hz1, hz2⟩ := hz
    have HE := Lib.hid (HX1.out (by
      cases h : digits d.data.toList with
      | false => rfl
      | true =>
        rcases ((digits_iff _).1 h).2.2 with k | k
        · rw [hhead] at k
          exact absurd (by rw [(UInt8.toNat_inj.1 hz1 : d[0] = 48)]) k
        · have := congrArg List.length k
          simp at this
          have : d.size = d.data.size := rfl
          omega))
    have e48 : ((d[0].toNat : Int) == 48) = true := by rw [hz1]; rfl
    clear HX1 HX2 HX3 hz1 hhead
    go_enter Tryz.func88, Tryz.ntmps88
    go_wp2
    go_ret2
    exact ⟨by rw [HE.out.1, HE.out.2]; rfl, rfl⟩
  have HD : Hid ((∀ c ∈ d.data.toList, digB c = true) → digits d.data.toList = true) := fun h => by
    refine (digits_iff _).2 ⟨fun e => ?_, h, ?_⟩
    · rw [e] at hhead; cases hhead
    · by_cases h1 : d[0].toNat = 48
      · refine .inr ?_
        have hs1 : d.size = 1 := by omega
        have : d.data.toList = [d[0]] := by
          apply List.ext_getElem
          · simp; exact hs1
          · intro i h1 h2
            simp at h2
            subst h2
            rfl
        rw [this, (UInt8.toNat_inj.1 h1 : d[0] = 48)]
      · refine .inl ?_
        rw [hhead]
        intro e
        injection e with e
        exact h1 (by rw [e]; rfl)
  have hcond : (((d[0].toNat : Int) == 48) = false ∧ 1 < d.size) ∨ (¬ 1 < d.size) := by
    by_cases h1 : 1 < d.size
    · refine .inl ⟨?_, h1⟩
      rw [beq_eq_false_iff_ne]
      intro e
      exact hz ⟨by omega, h1⟩
    · exact .inr h1
  clear hz hhead
  have hz0 : ((d.size : Int) == 0) = false := by rw [beq_eq_false_iff_ne]; omega
  rcases hcond with ⟨k1, k2⟩ | k2
  all_goals
    go_enter Tryz.func88, Tryz.ntmps88
    go_wp2
    go_loop [5] (fun a5 => ∃ k : Nat, k ≤ d.size ∧ a5 = .int .i64 k ∧ Hid (Dig d k)) (fun a5 => d.size - (intOf a5).toNat)
    case atStart => exact ⟨0, Nat.zero_le _, rfl, Dig.none d⟩
    case round =>
      obtain ⟨k, hk, rfl, HK⟩ := hrel
      by_cases hlt : k < d.size
      · have HP := Lib.hid (fun W => rdigit_any d[k] W)
        cases hc : digB d[k] with
        | false =>
          rw [hc] at HP
          have HE := Lib.hid (HX1.out (no_digits hlt hc))
          clear hc
          go_wp2_with (go_at_call 118; refine (HP.out _).mono ?_; rintro e w' ⟨rfl, rfl⟩)
          go_ret2
          exact ⟨by rw [HE.out.1, HE.out.2]; rfl, rfl⟩
        | true =>
          rw [hc] at HP
          have HK2 := Lib.hid (HK.out.next hlt hc)
          clear hc
          go_wp2_with (go_at_call 118; refine (HP.out _).mono ?_; rintro e w' ⟨rfl, rfl⟩)
          go_round
          case rel => exact ⟨k + 1, by omega, by go_num, HK2.out⟩
          case measure => simp [intOf]; omega
      · obtain rfl : k = d.size := by omega
        have hall : ∀ c ∈ d.data.toList, digB c = true := fun c hc => HK.out.all c (by rw [List.take_of_length_le (by simp)]; exact hc)
        have hdg := HD.out hall
        have hmd := most_digits d.data.toList mostM hdg rfl mostM_dig (by rw [mostM_num]; decide)
        rw [mostM_num] at hmd
        have hln : d.data.toList.length = d.size := by simp
        rw [hln] at hmd
        have HDG := Lib.hid hdg
        clear HD HX1 hln hdg HK
        by_cases hm : num d.data.toList ≤ 9223372036854775808
        · have HE := Lib.hid (HX3.out HDG.out hm)
          have hno : ¬ (19 < d.size ∨ d.size = 19 ∧ (Op.bytesLess d.data.toList mostM || d.data.toList == mostM) = false) := fun e => by have := hmd.1 e; omega
          have h19 : d.size < 19 ∨ (d.size = 19 ∧ (Op.bytesLess d.data.toList mostM || d.data.toList == mostM) = true) := by
            rcases Nat.lt_trichotomy d.size 19 with h | h | h
            · exact .inl h
            · refine .inr ⟨h, ?_⟩
              cases hb : (Op.bytesLess d.data.toList mostM || d.data.toList == mostM) with
              | true => rfl
              | false => exact absurd (.inr ⟨h, hb⟩) hno
            · exact absurd (.inl h) hno
          have HM : Hid (num d.data.toList ≤ 9223372036854775808) := hm
          have HALL := Lib.hid hall
          clear hmd hno HX2 HX3 hall hm hlt
          have htl : d.toList = d.data.toList := Lib.toList_data d
          have h3 : (d.size < 19 ∧ ((d.size : Int) == 19) = false) ∨ (((d.size : Int) == 19) = true ∧ Op.bytesLess d.toList [57, 50, 50, 51, 51, 55, 50, 48, 51, 54, 56, 53, 52, 55, 55, 53, 56, 48, 56] = true) ∨ (((d.size : Int) == 19) = true ∧ (d.toList == [57, 50, 50, 51, 51, 55, 50, 48, 51, 54, 56, 53, 52, 55, 55, 53, 56, 48, 56]) = true) := by
            rw [htl]
            rcases h19 with h | ⟨h, hg⟩
            · exact .inl ⟨h, by rw [beq_eq_false_iff_ne]; omega⟩
            · rw [Bool.or_eq_true] at hg
              rcases hg with hg | hg
              · exact .inr (.inl ⟨by rw [h]; rfl, hg⟩)
              · exact .inr (.inr ⟨by rw [h]; rfl, hg⟩)
          have a1 : ¬ 19 < d.size := by rcases h19 with h | ⟨h, _⟩ <;> omega
          clear h19 htl
          rcases h3 with ⟨_, a2⟩ | ⟨a2, hgt⟩ | ⟨a2, hgt⟩
          all_goals
            go_wp2
            go_loop [7, 8] (fun a7 a8 => ∃ (k : Nat) (y : Int), k ≤ d.size ∧ a8 = .int .i64 k ∧ a7 = .int .i64 y ∧ Hid (y = -(num (d.data.toList.take k) : Int))) (fun _ a8 => d.size - (intOf a8).toNat)
            case atStart => exact ⟨0, 0, Nat.zero_le _, rfl, rfl, by rw [Hid]; rfl⟩
            case round =>
              obtain ⟨k, y, hk2, rfl, rfl, HY⟩ := hrel
              by_cases hlt : k < d.size
              · have hc := (digB_iff d[k]).1 (HALL.out d[k] (List.getElem_mem (by simpa using hlt)))
                have hs := num_take_snoc d k hlt
                have hle := num_take d.data.toList (k + 1)
                have hM := HM.out
                have hy := HY.out
                have w1 : IntKind.i64.wrap (y * 10) = y * 10 := IntWalk.i64_in _ (by omega)
                have w2 : IntKind.i64.wrap (y * 10 - ((d[k].toNat : Int) - 48)) = y * 10 - ((d[k].toNat : Int) - 48) := IntWalk.i64_in _ (by omega)
                have HY2 : Hid (y * 10 - ((d[k].toNat : Int) - 48) = -(num (d.data.toList.take (k + 1)) : Int)) := by rw [Hid]; omega
                have c0 : (48 : Int) ≤ (d[k].toNat : Int) := by omega
                have c1 : (d[k].toNat : Int) ≤ 57 := by omega
                clear hc hs hle hM hy
                go_wp2
                go_round
                case rel => exact ⟨k + 1, y * 10 - ((d[k].toNat : Int) - 48), by omega, by go_num, rfl, HY2.out⟩
                case measure => simp [intOf]; omega
              · obtain rfl : k = d.size := by omega
                have HV : Hid (v = y) := by rw [Hid, HE.out.1, HY.out, List.take_of_length_le (by simp)]
                have HX := Lib.hid HE.out.2
                clear hlt HE
                go_wp2
                go_ret2
                exact ⟨by rw [HV.out, HX.out]; rfl, rfl⟩
        · have HE := Lib.hid (HX2.out HDG.out hm)
          have h19 := hmd.2 (by omega)
          clear hmd HX2 HX3 hall hm hlt
          rcases h19 with h | ⟨h, hg⟩
          · go_wp2
            all_goals
              go_ret2
              exact ⟨by rw [HE.out.1, HE.out.2]; rfl, rfl⟩
          · have htl : d.toList = d.data.toList := Lib.toList_data d
            rw [← htl, Bool.or_eq_false_iff] at hg
            obtain ⟨g1, g2⟩ := hg
            have g1' : Op.bytesLess d.toList [57, 50, 50, 51, 51, 55, 50, 48, 51, 54, 56, 53, 52, 55, 55, 53, 56, 48, 56] = false := g1
            have g2' : (d.toList == [57, 50, 50, 51, 51, 55, 50, 48, 51, 54, 56, 53, 52, 55, 55, 53, 56, 48, 56]) = false := g2
            clear g1 g2 htl
            have a1 : ¬ 19 < d.size := by omega
            have a2 : ((d.size : Int) == 19) = true := by rw [h]; rfl
            clear h
            go_wp2
            go_ret2
            exact ⟨by rw [HE.out.1, HE.out.2]; rfl, rfl⟩
set_option maxRecDepth 100000 in
set_option maxHeartbeats 2000000 in
theorem rwhole_plain (d : ByteArray) (w : World) (hd : d.size ≤ 9000000) (hn : d.size = 0 ∨ ∃ h : 0 < d.size, d[0].toNat ≠ 45) :
    Calls Tryz.prog 88 #[.string d] w fun e w' => e = .returned (.tuple #[.int .i64 (if digits d.data.toList = true ∧ num d.data.toList ≤ 9223372036854775807 then (num d.data.toList : Int) else 0), .int .i64 (if digits d.data.toList = true then (if num d.data.toList ≤ 9223372036854775807 then 0 else 7) else 12)]) ∧ w = w' := by
  have hX1 : digits d.data.toList = false → (if digits d.data.toList = true ∧ num d.data.toList ≤ 9223372036854775807 then (num d.data.toList : Int) else (0 : Int)) = 0 ∧ (if digits d.data.toList = true then (if num d.data.toList ≤ 9223372036854775807 then (0 : Int) else 7) else 12) = 12 := fun h => by rw [h]; exact ⟨if_neg (by simp), if_neg (by simp)⟩
  have hX2 : digits d.data.toList = true → ¬ num d.data.toList ≤ 9223372036854775807 → (if digits d.data.toList = true ∧ num d.data.toList ≤ 9223372036854775807 then (num d.data.toList : Int) else (0 : Int)) = 0 ∧ (if digits d.data.toList = true then (if num d.data.toList ≤ 9223372036854775807 then (0 : Int) else 7) else 12) = 7 := fun h k => ⟨if_neg (fun e => k e.2), by rw [if_pos h, if_neg k]⟩
  have hX3 : digits d.data.toList = true → num d.data.toList ≤ 9223372036854775807 → (if digits d.data.toList = true ∧ num d.data.toList ≤ 9223372036854775807 then (num d.data.toList : Int) else (0 : Int)) = (num d.data.toList : Int) ∧ (if digits d.data.toList = true then (if num d.data.toList ≤ 9223372036854775807 then (0 : Int) else 7) else 12) = 0 := fun h k => ⟨if_pos ⟨h, k⟩, by rw [if_pos h, if_pos k]⟩
  generalize (if digits d.data.toList = true ∧ num d.data.toList ≤ 9223372036854775807 then (num d.data.toList : Int) else (0 : Int)) = v at *
  generalize (if digits d.data.toList = true then (if num d.data.toList ≤ 9223372036854775807 then (0 : Int) else 7) else 12) = x at *
  have HX1 := Lib.hid hX1
  have HX2 := Lib.hid hX2
  have HX3 := Lib.hid hX3
  clear hX1 hX2 hX3
  by_cases h0 : d.size = 0
  · obtain rfl : d = ⟨#[]⟩ := ByteArray.ext (Array.eq_empty_of_size_eq_zero h0)
    have HE := Lib.hid (HX1.out (by rfl))
    clear HX1 HX2 HX3 h0 hd hn
    go_enter Tryz.func88, Tryz.ntmps88
    go_wp2
    go_ret2
    exact ⟨by rw [HE.out.1, HE.out.2]; rfl, rfl⟩
  have hpos : 0 < d.size := by omega
  have hne45 : ((d[0].toNat : Int) == 45) = false := by
    rcases hn with h | ⟨_, h⟩
    · omega
    · rw [beq_eq_false_iff_ne]; omega
  have hne : d.toList.isEmpty = false := by
    rw [Lib.toList_data]
    cases hl : d.data.toList with
    | nil =>
      have h1 : d.data.toList.length = d.size := by simp
      rw [hl, List.length_nil] at h1
      omega
    | cons a b => rfl
  clear hn
  have HD0 : Hid (∀ W, Calls Tryz.prog 118 #[.int .u8 (d[0].toNat : Int)] W fun e w' => e = .returned (.bool (digB d[0])) ∧ W = w') := fun W => rdigit_any d[0] W
  clear HD0
  have hhead : d.data.toList.head? = some d[0] := by
    have h1 := List.drop_eq_getElem_cons (l := d.data.toList) (i := 0) (by simpa using hpos)
    rw [List.drop_zero] at h1
    rw [h1]; rfl
  by_cases hz : d[0].toNat = 48 ∧ 1 < d.size
  · obtain ⟨hz1, hz2⟩ := hz
    have HE := Lib.hid (HX1.out (by
      cases h : digits d.data.toList with
      | false => rfl
      | true =>
        rcases ((digits_iff _).1 h).2.2 with k | k
        · rw [hhead] at k
          exact absurd (by rw [(UInt8.toNat_inj.1 hz1 : d[0] = 48)]) k
        · have := congrArg List.length k
          simp at this
          have : d.size = d.data.size := rfl
          omega))
    have e48 : ((d[0].toNat : Int) == 48) = true := by rw [hz1]; rfl
    clear HX1 HX2 HX3 hz1 hhead
    go_enter Tryz.func88, Tryz.ntmps88
    go_wp2
    go_ret2
    exact ⟨by rw [HE.out.1, HE.out.2]; rfl, rfl⟩
  have HD : Hid ((∀ c ∈ d.data.toList, digB c = true) → digits d.data.toList = true) := fun h => by
    refine (digits_iff _).2 ⟨fun e => ?_, h, ?_⟩
    · rw [e] at hhead; cases hhead
    · by_cases h1 : d[0].toNat = 48
      · refine .inr ?_
        have hs1 : d.size = 1 := by omega
        have : d.data.toList = [d[0]] := by
          apply List.ext_getElem
          · simp; exact hs1
          · intro i h1 h2
            simp at h2
            subst h2
            rfl
        rw [this, (UInt8.toNat_inj.1 h1 : d[0] = 48)]
      · refine .inl ?_
        rw [hhead]
        intro e
        injection e with e
        exact h1 (by rw [e]; rfl)
  have hcond : (((d[0].toNat : Int) == 48) = false ∧ 1 < d.size) ∨ (¬ 1 < d.size) := by
    by_cases h1 : 1 < d.size
    · refine .inl ⟨?_, h1⟩
      rw [beq_eq_false_iff_ne]
      intro e
      exact hz ⟨by omega, h1⟩
    · exact .inr h1
  clear hz hhead
  have hz0 : ((d.size : Int) == 0) = false := by rw [beq_eq_false_iff_ne]; omega
  rcases hcond with ⟨k1, k2⟩ | k2
  all_goals
    go_enter Tryz.func88, Tryz.ntmps88
    go_wp2
    go_loop [5] (fun a5 => ∃ k : Nat, k ≤ d.size ∧ a5 = .int .i64 k ∧ Hid (Dig d k)) (fun a5 => d.size - (intOf a5).toNat)
    case atStart => exact ⟨0, Nat.zero_le _, rfl, Dig.none d⟩
    case round =>
      obtain ⟨k, hk, rfl, HK⟩ := hrel
      by_cases hlt : k < d.size
      · have HP := Lib.hid (fun W => rdigit_any d[k] W)
        cases hc : digB d[k] with
        | false =>
          rw [hc] at HP
          have HE := Lib.hid (HX1.out (no_digits hlt hc))
          clear hc
          go_wp2_with (go_at_call 118; refine (HP.out _).mono ?_; rintro e w' ⟨rfl, rfl⟩)
          go_ret2
          exact ⟨by rw [HE.out.1, HE.out.2]; rfl, rfl⟩
        | true =>
          rw [hc] at HP
          have HK2 := Lib.hid (HK.out.next hlt hc)
          clear hc
          go_wp2_with (go_at_call 118; refine (HP.out _).mono ?_; rintro e w' ⟨rfl, rfl⟩)
          go_round
          case rel => exact ⟨k + 1, by omega, by go_num, HK2.out⟩
          case measure => simp [intOf]; omega
      · obtain rfl : k = d.size := by omega
        have hall : ∀ c ∈ d.data.toList, digB c = true := fun c hc => HK.out.all c (by rw [List.take_of_length_le (by simp)]; exact hc)
        have hdg := HD.out hall
        have hmd := most_digits d.data.toList mostP hdg rfl mostP_dig (by rw [mostP_num]; decide)
        rw [mostP_num] at hmd
        have hln : d.data.toList.length = d.size := by simp
        rw [hln] at hmd
        have HDG := Lib.hid hdg
        clear HD HX1 hln hdg HK
        by_cases hm : num d.data.toList ≤ 9223372036854775807
        · have HE := Lib.hid (HX3.out HDG.out hm)
          have hno : ¬ (19 < d.size ∨ d.size = 19 ∧ (Op.bytesLess d.data.toList mostP || d.data.toList == mostP) = false) := fun e => by have := hmd.1 e; omega
          have h19 : d.size < 19 ∨ (d.size = 19 ∧ (Op.bytesLess d.data.toList mostP || d.data.toList == mostP) = true) := by
            rcases Nat.lt_trichotomy d.size 19 with h | h | h
            · exact .inl h
            · refine .inr ⟨h, ?_⟩
              cases hb : (Op.bytesLess d.data.toList mostP || d.data.toList == mostP) with
              | true => rfl
              | false => exact absurd (.inr ⟨h, hb⟩) hno
            · exact absurd (.inl h) hno
          have HM : Hid (num d.data.toList ≤ 9223372036854775807) := hm
          have HALL := Lib.hid hall
          clear hmd hno HX2 HX3 hall hm hlt
          have htl : d.toList = d.data.toList := Lib.toList_data d
          have h3 : (d.size < 19 ∧ ((d.size : Int) == 19) = false) ∨ (((d.size : Int) == 19) = true ∧ Op.bytesLess d.toList [57, 50, 50, 51, 51, 55, 50, 48, 51, 54, 56, 53, 52, 55, 55, 53, 56, 48, 55] = true) ∨ (((d.size : Int) == 19) = true ∧ (d.toList == [57, 50, 50, 51, 51, 55, 50, 48, 51, 54, 56, 53, 52, 55, 55, 53, 56, 48, 55]) = true) := by
            rw [htl]
            rcases h19 with h | ⟨h, hg⟩
            · exact .inl ⟨h, by rw [beq_eq_false_iff_ne]; omega⟩
            · rw [Bool.or_eq_true] at hg
              rcases hg with hg | hg
              · exact .inr (.inl ⟨by rw [h]; rfl, hg⟩)
              · exact .inr (.inr ⟨by rw [h]; rfl, hg⟩)
          have a1 : ¬ 19 < d.size := by rcases h19 with h | ⟨h, _⟩ <;> omega
          clear h19 htl
          rcases h3 with ⟨_, a2⟩ | ⟨a2, hgt⟩ | ⟨a2, hgt⟩
          all_goals
            go_wp2
            go_loop [7, 8] (fun a7 a8 => ∃ (k : Nat) (y : Int), k ≤ d.size ∧ a8 = .int .i64 k ∧ a7 = .int .i64 y ∧ Hid (y = (num (d.data.toList.take k) : Int))) (fun _ a8 => d.size - (intOf a8).toNat)
            case atStart => exact ⟨0, 0, Nat.zero_le _, rfl, rfl, by rw [Hid]; rfl⟩
            case round =>
              obtain ⟨k, y, hk2, rfl, rfl, HY⟩ := hrel
              by_cases hlt : k < d.size
              · have hc := (digB_iff d[k]).1 (HALL.out d[k] (List.getElem_mem (by simpa using hlt)))
                have hs := num_take_snoc d k hlt
                have hle := num_take d.data.toList (k + 1)
                have hM := HM.out
                have hy := HY.out
                have w1 : IntKind.i64.wrap (y * 10) = y * 10 := IntWalk.i64_in _ (by omega)
                have w2 : IntKind.i64.wrap (y * 10 + ((d[k].toNat : Int) - 48)) = y * 10 + ((d[k].toNat : Int) - 48) := IntWalk.i64_in _ (by omega)
                have HY2 : Hid (y * 10 + ((d[k].toNat : Int) - 48) = (num (d.data.toList.take (k + 1)) : Int)) := by rw [Hid]; omega
                have c0 : (48 : Int) ≤ (d[k].toNat : Int) := by omega
                have c1 : (d[k].toNat : Int) ≤ 57 := by omega
                clear hc hs hle hM hy
                go_wp2
                go_round
                case rel => exact ⟨k + 1, y * 10 + ((d[k].toNat : Int) - 48), by omega, by go_num, rfl, HY2.out⟩
                case measure => simp [intOf]; omega
              · obtain rfl : k = d.size := by omega
                have HV : Hid (v = y) := by rw [Hid, HE.out.1, HY.out, List.take_of_length_le (by simp)]
                have HX := Lib.hid HE.out.2
                clear hlt HE
                go_wp2
                go_ret2
                exact ⟨by rw [HV.out, HX.out]; rfl, rfl⟩
        · have HE := Lib.hid (HX2.out HDG.out hm)
          have h19 := hmd.2 (by omega)
          clear hmd HX2 HX3 hall hm hlt
          rcases h19 with h | ⟨h, hg⟩
          · go_wp2
            all_goals
              go_ret2
              exact ⟨by rw [HE.out.1, HE.out.2]; rfl, rfl⟩
          · have htl : d.toList = d.data.toList := Lib.toList_data d
            rw [← htl, Bool.or_eq_false_iff] at hg
            obtain ⟨g1, g2⟩ := hg
            have g1' : Op.bytesLess d.toList [57, 50, 50, 51, 51, 55, 50, 48, 51, 54, 56, 53, 52, 55, 55, 53, 56, 48, 55] = false := g1
            have g2' : (d.toList == [57, 50, 50, 51, 51, 55, 50, 48, 51, 54, 56, 53, 52, 55, 55, 53, 56, 48, 55]) = false := g2
            clear g1 g2 htl
            have a1 : ¬ 19 < d.size := by omega
            have a2 : ((d.size : Int) == 19) = true := by rw [h]; rfl
            clear h
            go_wp2
            go_ret2
            exact ⟨by rw [HE.out.1, HE.out.2]; rfl, rfl⟩
theorem rwhole_any (s : ByteArray) (w : World) (hs : s.size ≤ 9000000) : Calls Tryz.prog 88 #[.string s] w fun e w' => e = .returned (.tuple #[.int .i64 (wholeV s.data.toList), .int .i64 (wholeE s.data.toList)]) ∧ w = w' := by
  cases hm : minus s.data.toList with
  | true =>
    obtain ⟨r, hr⟩ := minus_of hm
    obtain rfl : s = bs (45 :: r) := ByteArray.ext (Array.toList_inj.1 (by rw [hr]; simp [bs]))
    have hz := bs_size (45 :: r)
    have hzr := bs_size r
    rw [List.length_cons] at hz
    obtain ⟨p1, p2, p3, p4⟩ := bs_cons 45 r
    have h := rwhole_minus (bs r) (bs (45 :: r)) w (by omega) p1 p2 p3 p4
    rw [bs_toList] at h
    rw [bs_toList]
    have e1 : wholeV (45 :: r) = if digits r = true ∧ num r ≤ 9223372036854775808 then -(num r : Int) else 0 := by
      rw [wholeV, behind_minus]; rfl
    have e2 : wholeE (45 :: r) = if digits r = true then (if num r ≤ 9223372036854775808 then 0 else 7) else 12 := by
      rw [wholeE, behind_minus]; rfl
    rw [e1, e2]
    exact h
  | false =>
    have hb := behind_other _ (minus_no hm)
    have hn : s.size = 0 ∨ ∃ h : 0 < s.size, s[0].toNat ≠ 45 := by
      by_cases h0 : s.size = 0
      · exact .inl h0
      · refine .inr ⟨by omega, fun e => ?_⟩
        have h1 := List.drop_eq_getElem_cons (l := s.data.toList) (i := 0) (by simp; omega)
        rw [List.drop_zero] at h1
        refine minus_no hm (s.data.toList.drop 1) (h1.trans ?_)
        congr 1
        exact UInt8.toNat_inj.1 e
    have h := rwhole_plain s w hs hn
    have hmo : most s.data.toList = 9223372036854775807 := by rw [most, hm]; rfl
    have e1 : wholeV s.data.toList = if digits s.data.toList = true ∧ num s.data.toList ≤ 9223372036854775807 then (num s.data.toList : Int) else 0 := by
      rw [wholeV, hb, hmo, hm]; rfl
    have e2 : wholeE s.data.toList = if digits s.data.toList = true then (if num s.data.toList ≤ 9223372036854775807 then 0 else 7) else 12 := by
      rw [wholeE, hb, hmo]
    rw [e1, e2]
    exact h
end Go.Proofs.YthhdadfnkdjmkaaGreatDoor
namespace Go.Proofs.YthhdadfnkdjmkaaGreatDoor.y

def alB (c : UInt8) : Bool := digB c || letB c
def onlyB (o l : List UInt8) : Bool := l.all fun c => alB c || o.contains c
def inW : List UInt8 := [46, 95, 47, 58, 64, 43, 45]
def inK : List UInt8 := [46, 95, 47, 45]
def headB (l : List UInt8) : Bool := match l with
  | [] => false
  | c :: _ => letB c || decide (c.toNat = 95)
/-- Is a text a plain key? -/
def keyB (l : List UInt8) : Bool := headB l && (!namedB l && onlyB inK l)

def zV : v.V := .mk 0 false 0 ⟨#[]⟩ [] []
def vFlag (b : Bool) : v.V := .mk 1 b 0 ⟨#[]⟩ [] []
def vInt (n : Int) : v.V := .mk 2 false n ⟨#[]⟩ [] []
def vText (l : List UInt8) : v.V := .mk 3 false 0 (tx l) [] []
def vList (l : List v.V) : v.V := .mk 4 false 0 ⟨#[]⟩ l []
def vKeys (l : List (ByteArray × v.V)) : v.V := .mk 5 false 0 ⟨#[]⟩ [] l

/-- Is this the end, or a blank? -/
def endB (l : List UInt8) : Bool := match l with
  | [] => true
  | c :: _ => decide (c.toNat = 32)
/-- The place of the first colon that a blank follows, or nothing. -/
def colon : List UInt8 → Option Nat
  | [] => none
  | c :: r => if c.toNat = 58 ∧ endB r = true then some 0 else (colon r).map (· + 1)
def lead (l : List UInt8) : List UInt8 := l.drop (blanks l)
structure Ent where
  key : List UInt8
  quoted : Bool
  behind : List UInt8
/-- What stands behind a quoted part. -/
def restE (k r : List UInt8) : Int × Option Ent := match r with
  | [] => (0, none)
  | c :: t => if c.toNat = 58 ∧ endB t = true then (0, some ⟨k, true, lead t⟩) else (6, none)
/-- The key row that a text is: the code, the row. -/
def entM (l : List UInt8) : Int × Option Ent :=
  if l.head? = some 34 then (if (unqF l).2.2 ≠ 0 then ((unqF l).2.2, none) else restE (unqF l).1 (l.drop (unqF l).2.1))
  else match colon l with
    | none => (0, none)
    | some i => (0, some ⟨l.take i, false, lead (l.drop (i + 1))⟩)
/-- A plain word that is not told by its name. -/
def wordM (l : List UInt8) : Int × v.V :=
  if startB (l.headD 0) = true then (if wholeE l ≠ 0 then (wholeE l, zV) else (0, vInt (wholeV l)))
  else if 4096 < l.length then (2, zV) else (0, vText l)
def quoM (l : List UInt8) : Int × v.V :=
  if (unqF l).2.2 ≠ 0 then ((unqF l).2.2, zV) else if (unqF l).2.1 = l.length then (0, vText (unqF l).1) else (6, zV)
/-- What a text says, in so many lists and keys: the code, the value. -/
def scM (l : List UInt8) (ins : Nat) : Int × v.V :=
  if l = tNull then (0, zV) else if l = tTrue then (0, vFlag true) else if l = tFalse then (0, vFlag false)
  else if l = [91, 93] then (if 32 ≤ ins then (9, zV) else (0, vList []))
  else if l = [123, 125] then (if 32 ≤ ins then (9, zV) else (0, vKeys []))
  else if l.head? = some 34 then quoM l
  else if onlyB inW l = true then wordM l else (6, zV)
/-- What is wrong with a key. -/
def keyE (n : Ent) (met : List ByteArray) : Int :=
  if n.quoted = false ∧ keyB n.key = false then 6 else if 4096 < n.key.length then 2 else if v.inB (tx n.key) met = true then 8 else 0

abbrev Res := Except (Nat × Int) v.V
def seg (ind : Int) (S : List Rw) : List Rw := S.takeWhile fun r => decide (ind < (r.indent : Int))
def off (ind : Int) (S : List Rw) : List Rw := S.dropWhile fun r => decide (ind < (r.indent : Int))
theorem seg_len (ind : Int) (S : List Rw) : (seg ind S).length ≤ S.length := (List.takeWhile_prefix _).length_le
theorem off_len (ind : Int) (S : List Rw) : (off ind S).length ≤ S.length := (List.dropWhile_suffix _).length_le
mutual
/-- The value of a block's rows, in so many others. -/
def blk (S : List Rw) (ins : Nat) : Res := match S with
  | [] => .ok zV
  | r :: T => if r.dash = true then (if 32 ≤ ins then .error (r.line, 9) else items r.indent ins (r :: T) [])
    else if (entM r.text).1 ≠ 0 then .error (r.line, (entM r.text).1)
    else if (entM r.text).2.isSome = true then (if 32 ≤ ins then .error (r.line, 9) else pairs r.indent ins (r :: T) [])
    else if (scM r.text ins).1 ≠ 0 then .error (r.line, (scM r.text ins).1)
    else match T with
      | [] => .ok (scM r.text ins).2
      | r2 :: _ => .error (r2.line, 6)
termination_by 2 * S.length + 1
def items (ind ins : Nat) (S : List Rw) (acc : List v.V) : Res := match S with
  | [] => .ok (vList acc)
  | r :: T => if r.indent ≠ ind ∨ r.dash = false then .error (r.line, 6) else match blk (seg ind T) (ins + 1) with
    | .error e => .error e
    | .ok x => items ind ins (off ind T) (acc ++ [x])
termination_by 2 * S.length
decreasing_by
  · have := seg_len ind T; simp only [List.length_cons]; omega
  · have := off_len ind T; simp only [List.length_cons]; omega
def pairs (ind ins : Nat) (S : List Rw) (acc : List (ByteArray × v.V)) : Res := match S with
  | [] => .ok (vKeys acc)
  | r :: T => if r.indent ≠ ind ∨ r.dash = true then .error (r.line, 6)
    else if (entM r.text).1 ≠ 0 then .error (r.line, (entM r.text).1)
    else match (entM r.text).2 with
      | none => .error (r.line, 6)
      | some n => if keyE n (acc.map (·.1)) ≠ 0 then .error (r.line, keyE n (acc.map (·.1)))
        else if n.behind = [] then (match blk (seg ind T) (ins + 1) with
          | .error e => .error e
          | .ok x => pairs ind ins (off ind T) (acc ++ [(tx n.key, x)]))
        else if (scM n.behind (ins + 1)).1 ≠ 0 then .error (r.line, (scM n.behind (ins + 1)).1)
        else pairs ind ins T (acc ++ [(tx n.key, (scM n.behind (ins + 1)).2)])
termination_by 2 * S.length
decreasing_by
  · have := seg_len ind T; simp only [List.length_cons]; omega
  · have := off_len ind T; simp only [List.length_cons]; omega
  · simp only [List.length_cons]; omega
end
/-- What Parse answers: the value, the line, the code. -/
def parseR (S : List Rw) : v.V × Nat × Int :=
  if (match S with | [] => false | r :: _ => decide (0 < r.indent)) = true then (zV, (S.head?.map Rw.line).getD 0, 6)
  else match blk S 0 with
    | .ok x => (x, 0, 0)
    | .error e => (zV, e.1, e.2)
def parseM (l : List UInt8) : v.V × Nat × Int :=
  if (cutL Lib.validD l).2.2 ≠ 0 then (zV, (cutL Lib.validD l).2.1, (cutL Lib.validD l).2.2) else parseR (cutL Lib.validD l).1
end Go.Proofs.YthhdadfnkdjmkaaGreatDoor.y
namespace Go.Proofs.YthhdadfnkdjmkaaGreatDoor.y
open Go.ChangeShapes Go.WideShapes Go.ChangeAt Go.RowKit
attribute [local go_sem ↓] Go.wp_at_zero Go.wp_at_succ
variable {w : World}

theorem isLetter_any (c : UInt8) (w : World) : Calls Tryz.prog 31 #[.int .u8 (c.toNat : Int)] w fun e w' => e = .returned (.bool (letB c)) ∧ w = w' := by
  have hc : c.toNat < 65 ∨ (65 ≤ c.toNat ∧ c.toNat ≤ 90) ∨ (91 ≤ c.toNat ∧ c.toNat < 97) ∨ (97 ≤ c.toNat ∧ c.toNat ≤ 122) ∨ 123 ≤ c.toNat := by omega
  rcases hc with h | h | h | h | h
  · have H : Hid (letB c = false) := by rw [Hid, letB]; exact decide_eq_false (by omega)
    have a0 : ¬ (65 : Int) ≤ (c.toNat : Int) := by omega
    have a1 : ¬ (97 : Int) ≤ (c.toNat : Int) := by omega
    clear h
    go_enter Tryz.func31, Tryz.ntmps31
    go_wp2
    go_ret
    exact ⟨by rw [H.out]; rfl, rfl⟩
  · have H : Hid (letB c = true) := by rw [Hid, letB]; exact decide_eq_true (.inl h)
    have a0 : (65 : Int) ≤ (c.toNat : Int) := by omega
    have a1 : (c.toNat : Int) ≤ 90 := by omega
    clear h
    go_enter Tryz.func31, Tryz.ntmps31
    go_wp2
    go_ret
    exact ⟨by rw [H.out]; rfl, rfl⟩
  · have H : Hid (letB c = false) := by rw [Hid, letB]; exact decide_eq_false (by omega)
    have a0 : (65 : Int) ≤ (c.toNat : Int) := by omega
    have a1 : ¬ (c.toNat : Int) ≤ 90 := by omega
    have a2 : ¬ (97 : Int) ≤ (c.toNat : Int) := by omega
    clear h
    go_enter Tryz.func31, Tryz.ntmps31
    go_wp2
    go_ret
    exact ⟨by rw [H.out]; rfl, rfl⟩
  · have H : Hid (letB c = true) := by rw [Hid, letB]; exact decide_eq_true (.inr h)
    have a0 : (65 : Int) ≤ (c.toNat : Int) := by omega
    have a1 : ¬ (c.toNat : Int) ≤ 90 := by omega
    have a2 : (97 : Int) ≤ (c.toNat : Int) := by omega
    have a3 : (c.toNat : Int) ≤ 122 := by omega
    clear h
    go_enter Tryz.func31, Tryz.ntmps31
    go_wp2
    go_ret
    exact ⟨by rw [H.out]; rfl, rfl⟩
  · have H : Hid (letB c = false) := by rw [Hid, letB]; exact decide_eq_false (by omega)
    have a0 : (65 : Int) ≤ (c.toNat : Int) := by omega
    have a1 : ¬ (c.toNat : Int) ≤ 90 := by omega
    have a2 : (97 : Int) ≤ (c.toNat : Int) := by omega
    have a3 : ¬ (c.toNat : Int) ≤ 122 := by omega
    clear h
    go_enter Tryz.func31, Tryz.ntmps31
    go_wp2
    go_ret
    exact ⟨by rw [H.out]; rfl, rfl⟩
theorem isDigit_any (c : UInt8) (w : World) : Calls Tryz.prog 64 #[.int .u8 (c.toNat : Int)] w fun e w' => e = .returned (.bool (digB c)) ∧ w = w' := by
  by_cases h0 : 48 ≤ c.toNat
  · by_cases h1 : c.toNat ≤ 57
    · have a0 : (48 : Int) ≤ (c.toNat : Int) := by omega
      have a1 : (c.toNat : Int) ≤ 57 := by omega
      have H : Hid (digB c = true) := (digB_iff c).2 ⟨h0, h1⟩
      clear h0 h1
      go_enter Tryz.func64, Tryz.ntmps64
      go_wp2
      go_ret
      exact ⟨by rw [H.out]; rfl, rfl⟩
    · have a0 : (48 : Int) ≤ (c.toNat : Int) := by omega
      have a1 : ¬ (c.toNat : Int) ≤ 57 := by omega
      have H : Hid (digB c = false) := by rw [Hid, digB]; simp; omega
      clear h0 h1
      go_enter Tryz.func64, Tryz.ntmps64
      go_wp2
      go_ret
      exact ⟨by rw [H.out]; rfl, rfl⟩
  · have a0 : ¬ (48 : Int) ≤ (c.toNat : Int) := by omega
    have H : Hid (digB c = false) := by rw [Hid, digB]; simp; omega
    clear h0
    go_enter Tryz.func64, Tryz.ntmps64
    go_wp2
    go_ret
    exact ⟨by rw [H.out]; rfl, rfl⟩
theorem idx_in (o : List UInt8) (c : UInt8) (w : World) (h : o.contains c = true) : ∃ r : Int, 0 ≤ r ∧ Calls Tryz.prog 65 #[.string (tx o), .int .u8 (c.toNat : Int)] w fun e w' => e = .returned (.int .i64 r) ∧ w = w' := by
  have hm : c ∈ o := by simpa using h
  have hc : Int.toNat (c.toNat : Int) = c.toNat := by simp
  rcases indexByte_cases o c with h1 | ⟨k, h1⟩
  · exact absurd rfl (indexByte_none o c h1 c hm)
  · refine ⟨(k : Int), by omega, idx_any (tx o) (c.toNat : Int) (k : Int) w ?_⟩
    rw [tx_toList, hc]
    simpa using h1
theorem idx_out (o : List UInt8) (c : UInt8) (w : World) (h : o.contains c = false) : Calls Tryz.prog 65 #[.string (tx o), .int .u8 (c.toNat : Int)] w fun e w' => e = .returned (.int .i64 (-1)) ∧ w = w' := by
  have hm : c ∉ o := by simpa using h
  refine idx_any (tx o) (c.toNat : Int) (-1) w ?_
  have hc : Int.toNat (c.toNat : Int) = c.toNat := by simp
  rw [tx_toList, hc]
  rcases indexByte_cases o c with h1 | ⟨k, h1⟩
  · simpa using h1
  · obtain ⟨h2, h3, _⟩ := indexByte_some o c k h1
    exact absurd (by rw [h3]; simp) hm
theorem only_step (o l : List UInt8) (k : Nat) (h : k < l.length) : onlyB o (l.drop k) = ((alB l[k] || o.contains l[k]) && onlyB o (l.drop (k + 1))) := by
  unfold onlyB
  rw [List.drop_eq_getElem_cons h, List.all_cons]
set_option maxRecDepth 100000 in
set_option maxHeartbeats 1000000 in
theorem hasOnly_any (s : ByteArray) (o : List UInt8) (w : World) (hs : s.size ≤ 1000000) : Calls Tryz.prog 33 #[.string s, .string (tx o)] w fun e w' => e = .returned (.bool (onlyB o s.data.toList)) ∧ w = w' := by
  have HL := Lib.hid (fun c W => isLetter_any c W)
  have HD := Lib.hid (fun c W => isDigit_any c W)
  have HI := Lib.hid (fun c W => idx_in o c W)
  have HO := Lib.hid (fun c W => idx_out o c W)
  have hsz : s.data.toList.length = s.size := Array.length_toList
  have HSZ := Lib.hid hsz
  clear hsz
  generalize tx o = os at *
  go_enter Tryz.func33, Tryz.ntmps33
  go_wp2
  go_loop [8] (fun i => ∃ k : Nat, k ≤ s.size ∧ i = .int .i64 k ∧ Hid (onlyB o s.data.toList = onlyB o (s.data.toList.drop k))) (fun i => s.size - (intOf i).toNat)
  case atStart => exact ⟨0, Nat.zero_le _, rfl, rfl⟩
  case round =>
    obtain ⟨k, hk, rfl, HK⟩ := hrel
    by_cases hlt : k < s.size
    · have HS : Hid (onlyB o (s.data.toList.drop k) = ((alB s[k] || o.contains s[k]) && onlyB o (s.data.toList.drop (k + 1)))) := only_step o s.data.toList k (by rw [HSZ.out]; exact hlt)
      cases h1 : letB s[k]
      · cases h2 : digB s[k]
        · cases h3 : o.contains s[k]
          · have HR : Hid (onlyB o s.data.toList = false) := by rw [Hid, HK.out, HS.out, h3]; simp [alB, h1, h2]
            have HX := Lib.hid (fun W => HO.out s[k] W h3)
            clear h3 HS HK
            go_wp2_with (first | (go_at_call 31; refine (HL.out _ _).mono ?_; rintro e w' ⟨rfl, rfl⟩) | (go_at_call 64; refine (HD.out _ _).mono ?_; rintro e w' ⟨rfl, rfl⟩) | (go_at_call 65; refine (HX.out _).mono ?_; rintro e w' ⟨rfl, rfl⟩))
            go_ret
            exact ⟨by rw [HR.out]; rfl, rfl⟩
          · have HR : Hid (onlyB o s.data.toList = onlyB o (s.data.toList.drop (k + 1))) := by rw [Hid, HK.out, HS.out, h3]; simp
            obtain ⟨r, hr, HX0⟩ := HI.out s[k] w h3
            have HX := Lib.hid HX0
            have hr' : ¬ r < 0 := by omega
            clear h3 HS HK HX0
            go_wp2_with (first | (go_at_call 31; refine (HL.out _ _).mono ?_; rintro e w' ⟨rfl, rfl⟩) | (go_at_call 64; refine (HD.out _ _).mono ?_; rintro e w' ⟨rfl, rfl⟩) | (go_at_call 65; refine HX.out.mono ?_; rintro e w' ⟨rfl, rfl⟩))
            go_round
            case rel => exact ⟨k + 1, by omega, by go_num, HR⟩
            case measure => simp [intOf]; omega
        · have HR : Hid (onlyB o s.data.toList = onlyB o (s.data.toList.drop (k + 1))) := by rw [Hid, HK.out, HS.out]; simp [alB, h2]
          clear HS HK
          go_wp2_with (first | (go_at_call 31; refine (HL.out _ _).mono ?_; rintro e w' ⟨rfl, rfl⟩) | (go_at_call 64; refine (HD.out _ _).mono ?_; rintro e w' ⟨rfl, rfl⟩))
          go_round
          case rel => exact ⟨k + 1, by omega, by go_num, HR⟩
          case measure => simp [intOf]; omega
      · have HR : Hid (onlyB o s.data.toList = onlyB o (s.data.toList.drop (k + 1))) := by rw [Hid, HK.out, HS.out]; simp [alB, h1]
        clear HS HK
        go_wp2_with (go_at_call 31; refine (HL.out _ _).mono ?_; rintro e w' ⟨rfl, rfl⟩)
        go_round
        case rel => exact ⟨k + 1, by omega, by go_num, HR⟩
        case measure => simp [intOf]; omega
    · have HR : Hid (onlyB o s.data.toList = true) := by rw [Hid, HK.out, List.drop_of_length_le (by rw [HSZ.out]; omega)]; rfl
      clear HK
      go_wp2
      go_ret
      exact ⟨by rw [HR.out]; rfl, rfl⟩
end Go.Proofs.YthhdadfnkdjmkaaGreatDoor.y
namespace Go.Proofs.YthhdadfnkdjmkaaGreatDoor
open Go.ChangeShapes Go.WideShapes Go.ChangeAt Go.RowKit
attribute [local go_sem ↓] Go.wp_at_zero Go.wp_at_succ
variable {w : World}

/-- The library's error of a number that is too great stands in its variable. -/
def RangeVar (w : World) : Prop := ∃ tp p, w.var? Tryz.prog "strconv.ErrRange" = some #[.iface tp p]
theorem RangeVar.move {w w' : World} (h : RangeVar w) (f : Fresh w w') : RangeVar w' := by
  obtain ⟨tp, p, h⟩ := h
  refine ⟨tp, p, ?_⟩
  unfold World.var? at h ⊢
  cases hg : Tryz.prog.globalNamed "strconv.ErrRange" with
  | none => simp [hg] at h
  | some g =>
    simp only [hg, Option.bind_some] at h ⊢
    have hlt : g < w.heap.size := by
      rcases Nat.lt_or_ge g w.heap.size with h' | h'
      · exact h'
      · simp [Array.getElem?_eq_none h'] at h
    rw [f.block g hlt]
    exact h
theorem trim_any (s : ByteArray) (w : World) : Calls Tryz.prog 125 #[.string s, .string ⟨#[45]⟩] w fun e w' => e = .returned (.string (bs (behind s.data.toList))) ∧ w = w' := by
  refine (Any.strings_TrimPrefix Tryz.laysTrim s ⟨#[45]⟩ w).mono ?_
  rintro e w' ⟨h1, h2⟩
  exact ⟨h1, h2.symm⟩
theorem parse_yes (s : ByteArray) (w : World) (hs : s.size ≤ 9000000) (hd : digits (behind s.data.toList) = true) (hm : num (behind s.data.toList) ≤ most s.data.toList) :
    Calls Tryz.prog 126 #[.string s, .int .i64 10, .int .i64 64] w fun e w' => e = .returned (.tuple #[.int .i64 (wholeV s.data.toList), .nilIface]) ∧ Fresh w w' := by
  have hp := parse_digits _ hd
  have hw : wholeV s.data.toList = if minus s.data.toList = true then -(num (behind s.data.toList) : Int) else (num (behind s.data.toList) : Int) := by rw [wholeV, if_pos ⟨hd, hm⟩]
  rw [if_pos hm, ← hw] at hp
  clear hw
  generalize wholeV s.data.toList = v at *
  refine (Any.strconv_ParseInt_10_at64_ok Tryz.laysInt s (by omega) _ hp w).mono ?_
  rintro e w' ⟨h1, h2⟩
  refine ⟨h1, ?_⟩
  rcases h2 with rfl | ⟨t, rfl⟩
  · exact Fresh.refl _
  · exact Lib.bytesWorld_below ..
theorem parse_no (s : ByteArray) (w : World) (hs : s.size ≤ 9000000) (hr : RangeVar w) (hd : digits (behind s.data.toList) = true) (hm : ¬ num (behind s.data.toList) ≤ most s.data.toList) :
    Calls Tryz.prog 126 #[.string s, .int .i64 10, .int .i64 64] w fun e w' => (∃ x t p, e = .returned (.tuple #[.int .i64 x, .iface t (.pointer (some p))])) ∧ Fresh w w' := by
  have hp := parse_digits _ hd
  rw [if_neg hm] at hp
  obtain ⟨tp, p, hv⟩ := hr
  refine (Any.strconv_ParseInt_10_at64_range_var Tryz.laysInt s (by omega) hp tp p w hv).mono ?_
  rintro e w' ⟨N, h1, _, _, h2⟩
  exact ⟨⟨_, _, _, h1⟩, h2⟩
theorem bs_size_of (l : List UInt8) : (bs l).data.toList = l := bs_toList l
set_option maxRecDepth 100000 in
set_option maxHeartbeats 1000000 in
theorem whole_any (s : ByteArray) (w : World) (hs : s.size ≤ 9000000) (hr : RangeVar w) :
    Calls Tryz.prog 98 #[.string s] w fun e w' => e = .returned (.tuple #[.int .i64 (wholeV s.data.toList), .int .i64 (wholeE s.data.toList)]) ∧ Fresh w w' := by
  have HT := Lib.hid (fun W => trim_any s W)
  have HR := Lib.hid hr
  have HP1 := Lib.hid (fun W => parse_yes s W hs)
  have HP2 := Lib.hid (fun W => parse_no s W hs)
  have hbl : (behind s.data.toList).length ≤ 9000000 := by
    have h1 : (behind s.data.toList).length ≤ s.data.toList.length := by
      unfold behind Lib.trimPrefix
      split
      · simp
      · exact Nat.le_refl _
    have h2 : s.data.toList.length = s.size := by simp
    omega
  cases hd : digits (behind s.data.toList) with
  | true =>
    have HD : Hid (digits (behind s.data.toList) = true) := hd
    obtain ⟨d0, d1, d2⟩ := (digits_iff _).1 hd
    have hc := (cnt_all digB _).1 d1
    have HA := Lib.hid (fun W => ahead_digit (bs (behind s.data.toList)) W (by rw [bs_size]; exact hbl))
    rw [bs_toList, hc] at HA
    have HW : Hid (wholeE s.data.toList = if num (behind s.data.toList) ≤ most s.data.toList then 0 else 7) := by rw [Hid, wholeE, if_pos hd]
    have HV0 : Hid (¬ num (behind s.data.toList) ≤ most s.data.toList → wholeV s.data.toList = 0) := fun h => by rw [wholeV, if_neg (fun e => h e.2)]
    rcases hb : behind s.data.toList with _ | ⟨c, r⟩
    · exact absurd hb d0
    rw [hb] at HA HT d2
    have hsz := bs_size (c :: r)
    obtain ⟨p1, p2, _, p4⟩ := bs_cons c r
    by_cases h48 : c.toNat = 48
    · have hr0 : c :: r = [48] := by
        rcases d2 with d2 | d2
        · exact absurd (by rw [List.head?_cons, (UInt8.toNat_inj.1 h48 : c = 48)]) d2
        · exact d2
      have hm : num (behind s.data.toList) ≤ most s.data.toList := by
        have e0 : num (behind s.data.toList) = 0 := by rw [hb, hr0]; rfl
        omega
      have HX : Hid (wholeE s.data.toList = 0) := by rw [Hid, HW.out, if_pos hm]
      have HP := Lib.hid (fun W => HP1.out W HD.out hm)
      rw [hr0] at HT HA
      have e1 : bs [48] = ⟨#[48]⟩ := rfl
      rw [e1] at HT HA
      clear HP1 HP2 HW HV0 hm hr0 h48 hsz p1 p2 p4 d0 d1 d2 hb hd HD hc hbl e1
      generalize wholeV s.data.toList = v at *
      generalize wholeE s.data.toList = x at *
      go_enter Tryz.func98, Tryz.ntmps98
      go_wp2_with fail
      refine (HT.out _).mono ?_
      rintro e w' ⟨rfl, rfl⟩
      go_wp2_with fail
      refine (HA.out _).mono ?_
      rintro e w' ⟨rfl, rfl⟩
      go_wp2_with fail
      refine (HP.out _).mono ?_
      rintro e w1 ⟨rfl, hf1⟩
      have HF1 := Lib.hid hf1
      clear hf1
      go_wp2
      go_ret2
      exact ⟨by rw [HX.out]; rfl, HF1.out⟩
    · have e48 : ((c.toNat : Int) == 48) = false := by rw [beq_eq_false_iff_ne]; omega
      generalize bs (c :: r) = d at *
      have hlen : (c :: r).length = d.size := hsz.symm
      rw [hlen] at HA
      clear hsz hlen hbl hc d0 d1 d2 h48 hd
      by_cases hm : num (behind s.data.toList) ≤ most s.data.toList
      · have HX : Hid (wholeE s.data.toList = 0) := by rw [Hid, HW.out, if_pos hm]
        have HP := Lib.hid (fun W => HP1.out W HD.out hm)
        clear HP1 HP2 HW HV0 hm
        generalize wholeV s.data.toList = v at *
        generalize wholeE s.data.toList = x at *
        go_enter Tryz.func98, Tryz.ntmps98
        go_wp2_with fail
        refine (HT.out _).mono ?_
        rintro e w' ⟨rfl, rfl⟩
        go_wp2_with fail
        refine (HA.out _).mono ?_
        rintro e w' ⟨rfl, rfl⟩
        go_wp2_with fail
        refine (HP.out _).mono ?_
        rintro e w1 ⟨rfl, hf1⟩
        have HF1 := Lib.hid hf1
        clear hf1
        go_wp2
        go_ret2
        exact ⟨by rw [HX.out]; rfl, HF1.out⟩
      · have HX : Hid (wholeE s.data.toList = 7) := by rw [Hid, HW.out, if_neg hm]
        have HV := Lib.hid (HV0.out hm)
        have HP := Lib.hid (fun W h => HP2.out W h HD.out hm)
        clear HP1 HP2 HW HV0 hm
        generalize wholeV s.data.toList = v at *
        generalize wholeE s.data.toList = x at *
        go_enter Tryz.func98, Tryz.ntmps98
        go_wp2_with fail
        refine (HT.out _).mono ?_
        rintro e w' ⟨rfl, rfl⟩
        go_wp2_with fail
        refine (HA.out _).mono ?_
        rintro e w' ⟨rfl, rfl⟩
        go_wp2_with fail
        refine (HP.out _ HR.out).mono ?_
        rintro e w1 ⟨⟨y, t, p, rfl⟩, hf1⟩
        have HF1 := Lib.hid hf1
        clear hf1
        go_wp2
        go_ret2
        exact ⟨by rw [HX.out, HV.out]; rfl, HF1.out⟩
  | false =>
    have HX : Hid (wholeE s.data.toList = 12) := by rw [Hid, wholeE, if_neg (by rw [hd]; simp)]
    have HV : Hid (wholeV s.data.toList = 0) := by rw [Hid, wholeV, if_neg (by rw [hd]; simp)]
    have hn : ¬ (behind s.data.toList ≠ [] ∧ cnt digB (behind s.data.toList) = (behind s.data.toList).length ∧ ((behind s.data.toList).head? ≠ some 48 ∨ behind s.data.toList = [48])) := of_decide_eq_false hd
    have HA := Lib.hid (fun W => ahead_digit (bs (behind s.data.toList)) W (by rw [bs_size]; exact hbl))
    have hle := cnt_le digB (behind s.data.toList)
    rw [bs_toList] at HA
    clear hd HP1 HP2
    generalize behind s.data.toList = ds at *
    generalize wholeV s.data.toList = v at *
    generalize wholeE s.data.toList = x at *
    rcases ds with _ | ⟨c, r⟩
    · have e1 : bs [] = ⟨#[]⟩ := rfl
      rw [e1] at HT
      clear e1 hn hle hbl HA
      go_enter Tryz.func98, Tryz.ntmps98
      go_wp2_with fail
      refine (HT.out _).mono ?_
      rintro e w' ⟨rfl, rfl⟩
      go_wp2
      go_ret2
      exact ⟨by rw [HX.out, HV.out]; rfl, Fresh.refl _⟩
    · have hsz := bs_size (c :: r)
      obtain ⟨p1, p2, _, p4⟩ := bs_cons c r
      by_cases hc : cnt digB (c :: r) = (c :: r).length
      · have h48 : c = 48 ∧ r ≠ [] := by
          by_cases e : c = 48
          · refine ⟨e, ?_⟩
            rintro rfl
            subst e
            exact hn ⟨by simp, hc, .inr rfl⟩
          · exact absurd ⟨by simp, hc, .inl (by simpa using e)⟩ hn
        obtain ⟨rfl, hr⟩ := h48
        have q1 : ((bs (48 :: r)).toList == [48]) = false := by
          rw [Lib.toList_data, bs_toList]; simpa using hr
        have q2 : (bs (48 :: r)).toList ≠ [48] := by
          rw [Lib.toList_data, bs_toList]; simpa using hr
        rw [hc] at HA
        generalize bs (48 :: r) = d at *
        have hlen : ((48 : UInt8) :: r).length = d.size := hsz.symm
        rw [hlen] at HA
        clear hsz hlen hbl hc hn hle hr
        go_enter Tryz.func98, Tryz.ntmps98
        go_wp2_with fail
        refine (HT.out _).mono ?_
        rintro e w' ⟨rfl, rfl⟩
        go_wp2_with fail
        refine (HA.out _).mono ?_
        rintro e w' ⟨rfl, rfl⟩
        go_wp2
        go_ret2
        exact ⟨by rw [HX.out, HV.out]; rfl, Fresh.refl _⟩
      · have hlt : cnt digB (c :: r) < (bs (c :: r)).size := by rw [hsz]; omega
        generalize bs (c :: r) = d at *
        generalize cnt digB (c :: r) = n at *
        clear hsz hbl hn hle hc
        go_enter Tryz.func98, Tryz.ntmps98
        go_wp2_with fail
        refine (HT.out _).mono ?_
        rintro e w' ⟨rfl, rfl⟩
        go_wp2_with fail
        refine (HA.out _).mono ?_
        rintro e w' ⟨rfl, rfl⟩
        go_wp2
        go_ret2
        exact ⟨by rw [HX.out, HV.out]; rfl, Fresh.refl _⟩
end Go.Proofs.YthhdadfnkdjmkaaGreatDoor
