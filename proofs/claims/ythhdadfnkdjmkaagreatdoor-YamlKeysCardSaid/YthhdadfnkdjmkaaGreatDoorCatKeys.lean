/-
  PROVED: for every text and every number the given statement YamlKeys returns true, where the package-level variables that its row lists read as the program's text lays them (the card ties that); no other condition.
  The reference's plain keys.
  A plain key in a row, and 'true' behind it: what it comes to.
  The reference's Key.
  The statement YamlKeys, walked.
-/
import Derived.Test.YthhdadfnkdjmkaaGreatDoorCat10
import Derived.BigQuiet
import Derived.Test.YthhdadfnkdjmkaaGreatDoorCat21
import Derived.Test.YthhdadfnkdjmkaaGreatDoorCat22
import Derived.Test.YthhdadfnkdjmkaaGreatDoorCat11
import Derived.Test.YthhdadfnkdjmkaaGreatDoorCat25
import Derived.Test.YthhdadfnkdjmkaaGreatDoorCat14
namespace Go.Proofs.YthhdadfnkdjmkaaGreatDoor.y
open Go.ChangeShapes Go.WideShapes Go.ChangeAt Go.RowKit
attribute [local go_sem ↓] Go.wp_at_zero Go.wp_at_succ
variable {w : World}
theorem alB_iff (c : UInt8) : alB c = decide ((48 ≤ c.toNat ∧ c.toNat ≤ 57) ∨ (65 ≤ c.toNat ∧ c.toNat ≤ 90) ∨ (97 ≤ c.toNat ∧ c.toNat ≤ 122)) := by
  simp [alB, digB, letB]
theorem alnum_any (c : UInt8) (w : World) : Calls Tryz.prog 35 #[.int .u8 (c.toNat : Int)] w fun e w' => e = .returned (.bool (alB c)) ∧ w = w' := by
  have hc : (c.toNat < 48) ∨ (48 ≤ c.toNat ∧ c.toNat ≤ 57) ∨ (58 ≤ c.toNat ∧ c.toNat < 65) ∨ (65 ≤ c.toNat ∧ c.toNat ≤ 90) ∨ (91 ≤ c.toNat ∧ c.toNat < 97) ∨ (97 ≤ c.toNat ∧ c.toNat ≤ 122) ∨ (123 ≤ c.toNat) := by omega
  rcases hc with h | h | h | h | h | h | h
  · have H : Hid (alB c = false) := by rw [Hid, alB_iff]; exact decide_eq_false (by omega)
    have a0 : ¬ (48 : Int) ≤ (c.toNat : Int) := by omega
    have a2 : ¬ (65 : Int) ≤ (c.toNat : Int) := by omega
    have a4 : ¬ (97 : Int) ≤ (c.toNat : Int) := by omega
    clear h
    go_enter Tryz.func35, Tryz.ntmps35
    go_wp2
    go_ret
    exact ⟨by rw [H.out]; rfl, rfl⟩
  · have H : Hid (alB c = true) := by rw [Hid, alB_iff]; exact decide_eq_true (by omega)
    have a0 : (48 : Int) ≤ (c.toNat : Int) := by omega
    have a1 : (c.toNat : Int) ≤ 57 := by omega
    clear h
    go_enter Tryz.func35, Tryz.ntmps35
    go_wp2
    go_ret
    exact ⟨by rw [H.out]; rfl, rfl⟩
  · have H : Hid (alB c = false) := by rw [Hid, alB_iff]; exact decide_eq_false (by omega)
    have a0 : (48 : Int) ≤ (c.toNat : Int) := by omega
    have a1 : ¬ (c.toNat : Int) ≤ 57 := by omega
    have a2 : ¬ (65 : Int) ≤ (c.toNat : Int) := by omega
    have a4 : ¬ (97 : Int) ≤ (c.toNat : Int) := by omega
    clear h
    go_enter Tryz.func35, Tryz.ntmps35
    go_wp2
    go_ret
    exact ⟨by rw [H.out]; rfl, rfl⟩
  · have H : Hid (alB c = true) := by rw [Hid, alB_iff]; exact decide_eq_true (by omega)
    have a0 : (48 : Int) ≤ (c.toNat : Int) := by omega
    have a1 : ¬ (c.toNat : Int) ≤ 57 := by omega
    have a2 : (65 : Int) ≤ (c.toNat : Int) := by omega
    have a3 : (c.toNat : Int) ≤ 90 := by omega
    clear h
    go_enter Tryz.func35, Tryz.ntmps35
    go_wp2
    go_ret
    exact ⟨by rw [H.out]; rfl, rfl⟩
  · have H : Hid (alB c = false) := by rw [Hid, alB_iff]; exact decide_eq_false (by omega)
    have a0 : (48 : Int) ≤ (c.toNat : Int) := by omega
    have a1 : ¬ (c.toNat : Int) ≤ 57 := by omega
    have a2 : (65 : Int) ≤ (c.toNat : Int) := by omega
    have a3 : ¬ (c.toNat : Int) ≤ 90 := by omega
    have a4 : ¬ (97 : Int) ≤ (c.toNat : Int) := by omega
    clear h
    go_enter Tryz.func35, Tryz.ntmps35
    go_wp2
    go_ret
    exact ⟨by rw [H.out]; rfl, rfl⟩
  · have H : Hid (alB c = true) := by rw [Hid, alB_iff]; exact decide_eq_true (by omega)
    have a0 : (48 : Int) ≤ (c.toNat : Int) := by omega
    have a1 : ¬ (c.toNat : Int) ≤ 57 := by omega
    have a2 : (65 : Int) ≤ (c.toNat : Int) := by omega
    have a3 : ¬ (c.toNat : Int) ≤ 90 := by omega
    have a4 : (97 : Int) ≤ (c.toNat : Int) := by omega
    have a5 : (c.toNat : Int) ≤ 122 := by omega
    clear h
    go_enter Tryz.func35, Tryz.ntmps35
    go_wp2
    go_ret
    exact ⟨by rw [H.out]; rfl, rfl⟩
  · have H : Hid (alB c = false) := by rw [Hid, alB_iff]; exact decide_eq_false (by omega)
    have a0 : (48 : Int) ≤ (c.toNat : Int) := by omega
    have a1 : ¬ (c.toNat : Int) ≤ 57 := by omega
    have a2 : (65 : Int) ≤ (c.toNat : Int) := by omega
    have a3 : ¬ (c.toNat : Int) ≤ 90 := by omega
    have a4 : (97 : Int) ≤ (c.toNat : Int) := by omega
    have a5 : ¬ (c.toNat : Int) ≤ 122 := by omega
    clear h
    go_enter Tryz.func35, Tryz.ntmps35
    go_wp2
    go_ret
    exact ⟨by rw [H.out]; rfl, rfl⟩
theorem contains_take (o : List UInt8) (c : UInt8) (q : Nat) (h : q < o.length) : (o.take (q + 1)).contains c = ((o.take q).contains c || decide (c = o[q])) := by
  rw [List.take_succ_eq_append_getElem h, List.contains_append]
  simp
theorem eq_toNat (a b : UInt8) : decide (a = b) = ((a.toNat : Int) == (b.toNat : Int)) := by
  by_cases h : a = b
  · subst h; simp
  · have : a.toNat ≠ b.toNat := fun e => h (UInt8.toNat_inj.1 e)
    simp [h]; omega
set_option maxRecDepth 100000 in
set_option maxHeartbeats 1000000 in
theorem made_any (s os : ByteArray) (w : World) (hs : s.size ≤ 1000000) (ho : os.size ≤ 1000000) : Calls Tryz.prog 34 #[.string s, .string os] w fun e w' => e = .returned (.bool (onlyB os.data.toList s.data.toList && decide (0 < s.size))) ∧ Fresh w w' := by
  have HL := Lib.hid (fun c W => alnum_any c W)
  have hsz : s.data.toList.length = s.size := Array.length_toList
  have hosz : os.data.toList.length = os.size := Array.length_toList
  have HSZ := Lib.hid hsz
  have HOZ := Lib.hid hosz
  clear hsz hosz
  go_enter Tryz.func34, Tryz.ntmps34
  go_wp2
  go_loopw [5] (fun i wr => ∃ k : Nat, k ≤ s.size ∧ i = .int .i64 k ∧ Hid (onlyB os.data.toList s.data.toList = onlyB os.data.toList (s.data.toList.drop k)) ∧ Hid (Fresh w wr)) (fun i _ => s.size - (intOf i).toNat)
  case atStart => exact ⟨0, Nat.zero_le _, rfl, rfl, Fresh.refl _⟩
  case round =>
    obtain ⟨k, hk, rfl, HK, HF⟩ := hrel
    by_cases hlt : k < s.size
    · have HS : Hid (onlyB os.data.toList (s.data.toList.drop k) = ((alB s[k] || os.data.toList.contains s[k]) && onlyB os.data.toList (s.data.toList.drop (k + 1)))) := only_step os.data.toList s.data.toList k (by rw [HSZ.out]; exact hlt)
      go_wp2_with (first | (go_at_call 35; refine (HL.out _ _).mono ?_; rintro e w' ⟨rfl, rfl⟩))
      go_loopw [6, 7] (fun b j wq => ∃ q : Nat, q ≤ os.size ∧ j = .int .i64 q ∧ b = .bool (alB s[k] || (os.data.toList.take q).contains s[k]) ∧ Hid (Fresh w wq)) (fun _ j _ => os.size - (intOf j).toNat)
      case atStart => exact ⟨0, Nat.zero_le _, rfl, by simp, HF⟩
      case round =>
        obtain ⟨q, hq, rfl, rfl, HG⟩ := hrel
        by_cases hqt : q < os.size
        · have HT : Hid ((os.data.toList.take (q + 1)).contains s[k] = ((os.data.toList.take q).contains s[k] || decide (s[k] = os[q]))) := contains_take os.data.toList s[k] q (by rw [HOZ.out]; exact hqt)
          have HV : Hid ((alB s[k] || (os.data.toList.take (q + 1)).contains s[k]) = ((alB s[k] || (os.data.toList.take q).contains s[k]) || ((s[k].toNat : Int) == (os[q].toNat : Int)))) := by rw [Hid, HT.out, eq_toNat, Bool.or_assoc]
          clear HT
          cases hb : (alB s[k] || (os.data.toList.take q).contains s[k])
          · have HW : Hid ((alB s[k] || (os.data.toList.take (q + 1)).contains s[k]) = ((s[k].toNat : Int) == (os[q].toNat : Int))) := by rw [Hid, HV.out, hb, Bool.false_or]
            have hi : (0 : Int) ≤ (k : Int) ∧ (k : Int) < (s.size : Int) := ⟨by omega, by omega⟩
            have hj : (0 : Int) ≤ (q : Int) ∧ (q : Int) < (os.size : Int) := ⟨by omega, by omega⟩
            clear HV hb
            go_wp2_with fail
            go_quiet (fail)
            go_wp2
            go_roundw
            case rel => exact ⟨q + 1, by omega, by go_num, by rw [HW.out], v.Fresh.drewN HG.out nq⟩
            case measure => simp [intOf]; omega
          · have HW : Hid ((alB s[k] || (os.data.toList.take (q + 1)).contains s[k]) = true) := by rw [Hid, HV.out, hb, Bool.true_or]
            clear HV hb
            go_wp2_with fail
            go_quiet (fail)
            go_wp2
            go_roundw
            case rel => exact ⟨q + 1, by omega, by go_num, by rw [HW.out], v.Fresh.drewN HG.out nq⟩
            case measure => simp [intOf]; omega
        · obtain rfl : q = os.size := by omega
          have HE : Hid ((os.data.toList.take os.size).contains s[k] = os.data.toList.contains s[k]) := by rw [Hid, List.take_of_length_le (by rw [HOZ.out]; exact Nat.le_refl _)]
          rw [HE.out]
          cases hb : (alB s[k] || os.data.toList.contains s[k])
          · have HR : Hid (onlyB os.data.toList s.data.toList = false) := by rw [Hid, HK.out, HS.out, hb]; simp
            clear HS HK HE hb
            go_wp2
            go_ret
            exact ⟨by rw [HR.out]; rfl, HG.out⟩
          · have HR : Hid (onlyB os.data.toList s.data.toList = onlyB os.data.toList (s.data.toList.drop (k + 1))) := by rw [Hid, HK.out, HS.out, hb]; simp
            clear HS HK HE hb
            go_wp2
            go_roundw
            case rel => exact ⟨k + 1, by omega, by go_num, HR, HG⟩
            case measure => simp [intOf]; omega
    · have HR : Hid (onlyB os.data.toList s.data.toList = true) := by rw [Hid, HK.out, List.drop_of_length_le (by rw [HSZ.out]; omega)]; rfl
      clear HK
      go_wp2
      go_ret
      exact ⟨by rw [HR.out]; simp, HF.out⟩
end Go.Proofs.YthhdadfnkdjmkaaGreatDoor.y
namespace Go.Proofs.YthhdadfnkdjmkaaGreatDoor.y
def trueL : List UInt8 := [58, 32, 116, 114, 117, 101]
theorem only_range {l : List UInt8} (h : onlyB inK l = true) : ∀ c ∈ l, 45 ≤ c.toNat ∧ c.toNat ≤ 122 ∧ c.toNat ≠ 58 ∧ c.toNat ≠ 92 := fun c hc => by
  unfold onlyB at h
  have k := List.all_eq_true.1 h c hc
  rcases Bool.or_eq_true _ _ ▸ k with k | k
  · rw [alB_iff] at k
    have := of_decide_eq_true k
    omega
  · have hm : c ∈ inK := by simpa using k
    simp only [inK, List.mem_cons, List.not_mem_nil, or_false] at hm
    rcases hm with rfl | rfl | rfl | rfl | rfl <;> decide
theorem text_range {l : List UInt8} (h : onlyB inK l = true) : ∀ c ∈ l ++ trueL, 32 ≤ c.toNat ∧ c.toNat < 128 ∧ c ≠ 92 ∧ c ≠ 34 ∧ c ≠ 35 := fun c hc => by
  rcases List.mem_append.1 hc with hc | hc
  · have k := only_range h c hc
    refine ⟨by omega, by omega, fun e => ?_, fun e => ?_, fun e => ?_⟩
    · subst e; exact absurd rfl k.2.2.2
    · subst e; exact absurd k.1 (by decide)
    · subst e; exact absurd k.1 (by decide)
  · simp only [trueL, List.mem_cons, List.not_mem_nil, or_false] at hc
    rcases hc with rfl | rfl | rfl | rfl | rfl | rfl <;> decide
theorem remA_plain : ∀ (l : List UInt8) (b : Bool), (∀ c ∈ l, c ≠ 92 ∧ c ≠ 34 ∧ c ≠ 35) → remA false false b l = some l.length
  | [], b, _ => by rw [remA]; rfl
  | c :: r, b, h => by
    obtain ⟨h1, h2, h3⟩ := h c (List.mem_cons_self ..)
    rw [remA, if_neg (by simp), if_neg h1, if_neg h2, if_neg (fun e => h3 e.1), remA_plain r _ fun d hd => h d (List.mem_cons_of_mem _ hd)]
    rfl
theorem trim_true (l : List UInt8) : Lib.trimRightB (l ++ trueL) 32 = l ++ trueL := by
  unfold Lib.trimRightB trueL
  rw [List.reverse_append]
  simp
theorem key_head {l : List UInt8} (h : keyB l = true) : ∃ c r, l = c :: r ∧ c ≠ 32 ∧ c ≠ 45 ∧ c ≠ 34 ∧ onlyB inK l = true := by
  cases l with
  | nil => cases h
  | cons c r =>
    have k : ((letB c || decide (c.toNat = 95)) && (!namedB (c :: r) && onlyB inK (c :: r))) = true := h
    rw [Bool.and_eq_true, Bool.and_eq_true] at k
    have k1 : letB c = true ∨ decide (c.toNat = 95) = true := by simpa using k.1
    have k2 : 65 ≤ c.toNat := by
      rcases k1 with k1 | k1
      · have := of_decide_eq_true k1; omega
      · have := of_decide_eq_true k1; omega
    refine ⟨c, r, rfl, fun e => ?_, fun e => ?_, fun e => ?_, k.2.2⟩ <;> (subst e; exact absurd k2 (by decide))
theorem cut_key {l : List UInt8} (h : keyB l = true) : cutL Lib.validD (l ++ trueL) = ([⟨0, 0, false, l ++ trueL⟩], 0, 0) := by
  obtain ⟨c, r, hl, hc1, hc2, hc3, ho⟩ := key_head h
  have ht := text_range ho
  have h1 : lnsA [] (l ++ trueL) = [l ++ trueL] := by
    rw [lnsA_none _ _ (fun d hd e => by have := (ht d hd).1; subst e; exact absurd this (by decide))]
    rfl
  have h2 : badL Lib.validD (l ++ trueL) = false := by
    have a : lowB (l ++ trueL) = false := by
      unfold lowB
      rw [List.any_eq_false]
      intro d hd
      have := (ht d hd).1
      simp; omega
    have b : Lib.validD (l ++ trueL) = true := by
      rw [Lib.validD_ascii (l ++ trueL).length (l ++ trueL) (fun d hd => (ht d (List.mem_of_mem_take hd)).2.1), List.drop_length]
      rfl
    rw [badL_of _ a, b]; rfl
  have h3 : rem (l ++ trueL) = some (l ++ trueL).length := remA_plain _ _ fun d hd => (ht d hd).2.2
  have h4 : rowsS 0 0 (l ++ trueL) = [⟨0, 0, false, l ++ trueL⟩] := by
    subst hl
    rw [List.cons_append, rowsS, if_neg hc1, if_neg]
    unfold dashB
    have e1 : (c :: (r ++ trueL) == [45]) = false := by
      rw [beq_eq_false_iff_ne]; intro e; injection e with e1 e2; exact hc2 e1
    have e2 : [45, 32].isPrefixOf (c :: (r ++ trueL)) = false := by
      rw [List.isPrefixOf]
      have : ((45 : UInt8) == c) = false := by rw [beq_eq_false_iff_ne]; exact fun e => hc2 e.symm
      rw [this]; rfl
    rw [e1, e2]; simp
  unfold cutL
  rw [h1, cutA_step _ h2 h3, cutA, List.take_length, trim_true, h4]
  rfl
theorem colon_key : ∀ (l : List UInt8), (∀ c ∈ l, c.toNat ≠ 58) → colon (l ++ trueL) = some l.length
  | [], _ => by rfl
  | c :: r, h => by
    rw [List.cons_append, colon, if_neg (fun e => h c (List.mem_cons_self ..) e.1), colon_key r fun d hd => h d (List.mem_cons_of_mem _ hd)]
    rfl
theorem ent_key {l : List UInt8} (h : keyB l = true) : entM (l ++ trueL) = (0, some ⟨l, false, tTrue⟩) := by
  obtain ⟨c, r, hl, hc1, hc2, hc3, ho⟩ := key_head h
  have hh : ¬ (l ++ trueL).head? = some 34 := by
    subst hl
    intro e
    simp at e
    exact hc3 e
  have hd : (l ++ trueL).drop (l.length + 1) = [32, 116, 114, 117, 101] := by
    rw [List.drop_append]
    simp [trueL]
  unfold entM
  rw [if_neg hh, colon_key l fun d hd => (only_range ho d hd).2.2.1]
  dsimp only
  rw [List.take_left, hd]
  rfl
theorem parse_key {l : List UInt8} (h : keyB l = true) : parseM (l ++ trueL) = if 4096 < l.length then (zV, 0, 2) else (vKeys [(tx l, vFlag true)], 0, 0) := by
  have hk : keyE ⟨l, false, tTrue⟩ (([] : List (ByteArray × v.V)).map (·.1)) = if 4096 < l.length then 2 else 0 := by
    unfold keyE
    rw [if_neg (by simp [h])]
    by_cases h4 : 4096 < l.length
    · rw [if_pos h4, if_pos h4]
    · rw [if_neg h4, if_neg h4]
      rfl
  have hs : scM tTrue (0 + 1) = (0, vFlag true) := by rfl
  unfold parseM
  rw [cut_key h, if_neg (by simp)]
  dsimp only
  unfold parseR
  dsimp only
  rw [if_neg (by simp), blk_keys rfl (ent_key h), if_neg (by omega), pairs.eq_def]
  dsimp only
  rw [ent_key h]
  dsimp only
  rw [hk, hs, if_neg (by simp), if_neg (by simp)]
  by_cases h4 : 4096 < l.length
  · rw [if_pos h4, if_pos h4, if_pos (by decide)]
  · rw [if_neg h4, if_neg h4, if_neg (by simp), if_neg (by decide), if_neg (by simp), pairs.eq_def]
    rfl
end Go.Proofs.YthhdadfnkdjmkaaGreatDoor.y
namespace Go.Proofs.YthhdadfnkdjmkaaGreatDoor.y
open Go.ChangeShapes Go.WideShapes Go.ChangeAt Go.RowKit
attribute [local go_sem ↓] Go.wp_at_zero Go.wp_at_succ
variable {w : World}
set_option maxRecDepth 100000 in
set_option maxHeartbeats 1000000 in
theorem rkey_not (s : ByteArray) (a b c md : Bool) (w : World) (ha : (s.toList == [110, 117, 108, 108]) = a) (hb : (s.toList == [116, 114, 117, 101]) = b) (hc : (s.toList == [102, 97, 108, 115, 101]) = c)
    (hm : ∀ W : World, Calls Tryz.prog 34 #[.string s, .string ⟨#[46, 95, 47, 45]⟩] W fun e w' => e = .returned (.bool md) ∧ Fresh W w') (hx : (a || (b || (c || !md))) = true) :
    Calls Tryz.prog 13 #[.string s] w fun e w' => e = .returned (.bool false) ∧ Fresh w w' := by
  have HM := Lib.hid hm
  clear hm
  cases a
  · cases b
    · cases c
      · cases md
        · clear hx
          go_enter Tryz.func13, Tryz.ntmps13
          go_wp2_with (go_at_call 34; refine (HM.out _).mono ?_; rintro e w1 ⟨rfl, hf⟩; have HF := Lib.hid hf; clear hf)
          go_ret
          exact ⟨rfl, HF.out⟩
        · cases hx
      · clear hx HM
        go_enter Tryz.func13, Tryz.ntmps13
        go_wp2_with fail
        go_ret
        exact ⟨rfl, Fresh.refl w⟩
    · clear hx HM hc
      go_enter Tryz.func13, Tryz.ntmps13
      go_wp2_with fail
      go_ret
      exact ⟨rfl, Fresh.refl w⟩
  · clear hx HM hb hc
    go_enter Tryz.func13, Tryz.ntmps13
    go_wp2_with fail
    go_ret
    exact ⟨rfl, Fresh.refl w⟩
theorem alB_let (c : UInt8) : (alB c && decide (57 < c.toNat)) = letB c := by
  unfold alB digB letB
  rw [Bool.eq_iff_iff]
  simp
  omega
set_option maxRecDepth 100000 in
set_option maxHeartbeats 1000000 in
theorem rkey_head (c : UInt8) (r : List UInt8) (w : World) (ha : ((tx (c :: r)).toList == [110, 117, 108, 108]) = false) (hb : ((tx (c :: r)).toList == [116, 114, 117, 101]) = false) (hc : ((tx (c :: r)).toList == [102, 97, 108, 115, 101]) = false)
    (hm : ∀ W : World, Calls Tryz.prog 34 #[.string (tx (c :: r)), .string ⟨#[46, 95, 47, 45]⟩] W fun e w' => e = .returned (.bool true) ∧ Fresh W w') :
    Calls Tryz.prog 13 #[.string (tx (c :: r))] w fun e w' => e = .returned (.bool (headB (c :: r))) ∧ Fresh w w' := by
  have HM := Lib.hid hm
  have HL := Lib.hid (fun W => alnum_any c W)
  obtain ⟨p1, p2, p3, p4⟩ : Cons (tx (c :: r)) c (tx r) := bs_cons c r
  have HK : Hid (headB (c :: r) = ((alB c && decide (57 < c.toNat)) || decide (c.toNat = 95))) := by rw [alB_let]; rfl
  rw [HK.out]
  clear HK hm
  generalize tx (c :: r) = s at *
  clear p3
  by_cases h2 : c.toNat = 95
  · have g1 : ((c.toNat : Int) == 95) = true := by simp; omega
    rw [decide_eq_true h2, Bool.or_true]
    clear h2 HL
    go_enter Tryz.func13, Tryz.ntmps13
    go_wp2_with (go_at_call 34; refine (HM.out _).mono ?_; rintro e w1 ⟨rfl, hf⟩; have HF := Lib.hid hf; clear hf)
    go_ret
    exact ⟨rfl, HF.out⟩
  · have g1 : ((c.toNat : Int) == 95) = false := by simp; omega
    rw [decide_eq_false h2, Bool.or_false]
    cases h1 : alB c
    · rw [h1] at HL
      go_enter Tryz.func13, Tryz.ntmps13
      go_wp2_with (first | (go_at_call 34; refine (HM.out _).mono ?_; rintro e w1 ⟨rfl, hf⟩; have HF := Lib.hid hf; clear hf) | (go_at_call 35; refine (HL.out _).mono ?_; rintro e w' ⟨rfl, rfl⟩))
      go_ret
      exact ⟨rfl, HF.out⟩
    · rw [h1] at HL
      by_cases h3 : 57 < c.toNat
      · have g3 : (57 : Int) < (c.toNat : Int) := by omega
        rw [decide_eq_true h3]
        clear h3 h2
        go_enter Tryz.func13, Tryz.ntmps13
        go_wp2_with (first | (go_at_call 34; refine (HM.out _).mono ?_; rintro e w1 ⟨rfl, hf⟩; have HF := Lib.hid hf; clear hf) | (go_at_call 35; refine (HL.out _).mono ?_; rintro e w' ⟨rfl, rfl⟩))
        go_ret
        exact ⟨rfl, HF.out⟩
      · have g3 : decide ((57 : Int) < (c.toNat : Int)) = false := decide_eq_false (by omega)
        rw [decide_eq_false h3]
        clear h3 h2
        go_enter Tryz.func13, Tryz.ntmps13
        go_wp2_with (first | (go_at_call 34; refine (HM.out _).mono ?_; rintro e w1 ⟨rfl, hf⟩; have HF := Lib.hid hf; clear hf) | (go_at_call 35; refine (HL.out _).mono ?_; rintro e w' ⟨rfl, rfl⟩))
        go_ret
        exact ⟨rfl, HF.out⟩
theorem rkey_any (l : List UInt8) (w : World) (hl : l.length ≤ 1000000) : Calls Tryz.prog 13 #[.string (tx l)] w fun e w' => e = .returned (.bool (keyB l)) ∧ Fresh w w' := by
  have hm : ∀ W : World, Calls Tryz.prog 34 #[.string (tx l), .string ⟨#[46, 95, 47, 45]⟩] W fun e w' => e = .returned (.bool (onlyB inK l && decide (0 < (tx l).size))) ∧ Fresh W w' := fun W => by
    have k := made_any (tx l) (tx inK) W (by rw [tx_size]; exact hl) (by decide)
    rw [tx_toList, tx_toList] at k
    exact k
  by_cases hx : (decide (l = tNull) || (decide (l = tTrue) || (decide (l = tFalse) || !(onlyB inK l && decide (0 < (tx l).size))))) = true
  · have e : keyB l = false := by
      unfold keyB namedB
      cases l with
      | nil => rfl
      | cons c r =>
        have : 0 < (tx (c :: r)).size := by rw [tx_size]; simp
        rw [decide_eq_true this, Bool.and_true] at hx
        cases h1 : decide (c :: r = tNull) <;> cases h2 : decide (c :: r = tTrue) <;> cases h3 : decide (c :: r = tFalse) <;> cases h4 : onlyB inK (c :: r) <;> simp_all
    rw [e]
    exact rkey_not (tx l) _ _ _ _ w (tx_eq l _) (tx_eq l _) (tx_eq l _) hm hx
  · cases l with
    | nil => exact absurd (by decide) hx
    | cons c r =>
      have h0 : decide (0 < (tx (c :: r)).size) = true := decide_eq_true (by rw [tx_size]; simp)
      rw [h0, Bool.and_true] at hx
      have h1 : decide (c :: r = tNull) = false := by cases h : decide (c :: r = tNull) <;> simp_all
      have h2 : decide (c :: r = tTrue) = false := by cases h : decide (c :: r = tTrue) <;> simp_all
      have h3 : decide (c :: r = tFalse) = false := by cases h : decide (c :: r = tFalse) <;> simp_all
      have h4 : onlyB inK (c :: r) = true := by cases h : onlyB inK (c :: r) <;> simp_all
      have e : keyB (c :: r) = headB (c :: r) := by
        unfold keyB namedB
        rw [h1, h2, h3, h4]
        simp
      rw [h0, Bool.and_true, h4] at hm
      rw [e]
      exact rkey_head c r w ((tx_eq _ _).trans h1) ((tx_eq _ _).trans h2) ((tx_eq _ _).trans h3) hm
end Go.Proofs.YthhdadfnkdjmkaaGreatDoor.y
namespace Go.Proofs.YthhdadfnkdjmkaaGreatDoor.y
open Go.ChangeShapes Go.WideShapes Go.ChangeAt Go.RowKit
attribute [local go_sem ↓] Go.wp_at_zero Go.wp_at_succ
variable {w : World}
theorem parse_keyed (l : List UInt8) (h : keyB l = true) (hl : l.length ≤ 5000) (w : World) (hE : Env w) : Calls Tryz.prog 7 #[.string (tx (l ++ trueL))] w fun e w' =>
    (∃ m : v.M, e = .returned (.tuple #[m.val, .agg #[.int .i64 0, .int .i64 (if 4096 < l.length then 2 else 0)]]) ∧ m.plain = (if 4096 < l.length then zV else vKeys [(tx l, vFlag true)]) ∧ m.New w.heap.size w') ∧ Fresh w w' := by
  have p := parse_any (l ++ trueL) w (by rw [List.length_append]; simp [trueL]; omega) hE
  rw [parse_key h] at p
  by_cases hk : 4096 < l.length
  · rw [if_pos hk] at p; rw [if_pos hk, if_pos hk]; exact p
  · rw [if_neg hk] at p; rw [if_neg hk, if_neg hk]; exact p
theorem keys_one {m : v.M} {l : List UInt8} (h : m.plain = vKeys [(tx l, vFlag true)]) : ∃ mk mf mn ms mla mlc ml mka mkc p, m = .mk mk mf mn ms mla mlc ml mka mkc [p] := by
  obtain ⟨mk, mf, mn, ms, mla, mlc, ml, mka, mkc, mks⟩ := m
  rw [v.M.plain] at h
  unfold vKeys at h
  injection h with _ _ _ _ _ h6
  match mks, h6 with
  | [], h6 => cases h6
  | [p], _ => exact ⟨mk, mf, mn, ms, mla, mlc, ml, mka, mkc, p, rfl⟩
  | p :: q :: r, h6 => simp [v.plainK] at h6
theorem gets_one (l : List UInt8) : (vKeys [(tx l, vFlag true)]).gets (tx l) = (vFlag true, true) := by
  simp [vKeys, v.V.gets, v.V.kind, v.V.keys]
/-- What Get answers. -/
theorem get_keyed (m : v.M) (l : List UInt8) (W : World) (hp : m.plain = vKeys [(tx l, vFlag true)]) (hm : m.At W) : Calls Tryz.prog 14 #[m.val, .string (tx l)] W fun e w' => (∃ x : v.M, e = .returned (.tuple #[x.val, .bool true]) ∧ x.plain = vFlag true ∧ x.At w') ∧ Fresh W w' := by
  refine (v.get_any m (tx l) W hm).mono fun e w' k => ?_
  obtain ⟨⟨x, ok, h1, h2, h3⟩, h4⟩ := k
  rw [hp, gets_one] at h3
  injection h3 with h5 h6
  subst h6
  exact ⟨⟨x, h1, h5, h2⟩, h4⟩
/-- Is it the same as Yes(true)? -/
theorem same_yes (x : v.M) (W : World) (hx : x.At W) (hp : x.plain = vFlag true) : Calls Tryz.prog 15 #[x.val, .agg #[.int .i64 1, .bool true, .int .i64 0, .string ⟨#[]⟩, .slice none 0 0, .slice none 0 0]] W fun e w' => e = .returned (.bool true) ∧ Fresh W w' := by
  have k := v.same_any x (v.M.ofFlag true) W hx (v.at_flat W (by decide)) (by rw [hp]; simp [vFlag, v.V.size, v.sizeL, v.sizeK])
  have e : (v.M.ofFlag true).plain = vFlag true := by simp [v.M.ofFlag, v.M.plain, v.plainL, v.plainK, vFlag]
  rw [hp, e, v.V.same_refl] at k
  exact k
set_option maxRecDepth 100000 in
set_option maxHeartbeats 2000000 in
theorem keys_long (s : ByteArray) (n : Int) (w : World) (hs : 5000 < s.size) (hE : Env w) : Calls Tryz.prog 4 #[.string s, .int .i64 n] w fun e w' => e = .returned (.bool true) ∧ Fresh w w' := by
  have HA : Hid (∀ W, Fresh w W → Calls Tryz.prog 6 #[] W fun e w' => e = .returned (.bool true) ∧ Fresh W w') := fun W f => awake_any W (hE.move f)
  clear hE
  have hs' : (5000 : Int) < (s.size : Int) := by omega
  clear hs
  go_enter Tryz.func4, Tryz.ntmps4
  go_wp2_with (go_at_call 6; refine (HA.out _ (Fresh.refl _)).mono ?_; rintro e w1 ⟨rfl, hf⟩; have HF := Lib.hid hf; clear hf)
  go_ret
  exact ⟨rfl, HF.out⟩
set_option maxRecDepth 100000 in
set_option maxHeartbeats 2000000 in
theorem keys_not (l : List UInt8) (n : Int) (w : World) (hl : l.length ≤ 5000) (hk : keyB l = false) (hE : Env w) : Calls Tryz.prog 4 #[.string (tx l), .int .i64 n] w fun e w' => e = .returned (.bool true) ∧ Fresh w w' := by
  have HA : Hid (∀ W, Fresh w W → Calls Tryz.prog 6 #[] W fun e w' => e = .returned (.bool true) ∧ Fresh W w') := fun W f => awake_any W (hE.move f)
  have HK : Hid (∀ W : World, Calls Tryz.prog 12 #[.string (tx l)] W fun e w' => e = .returned (.bool false) ∧ Fresh W w') := fun W => by have k := key_any l W (by omega); rwa [hk] at k
  have HR : Hid (∀ W : World, Calls Tryz.prog 13 #[.string (tx l)] W fun e w' => e = .returned (.bool false) ∧ Fresh W w') := fun W => by have k := rkey_any l W (by omega); rwa [hk] at k
  have hs' : ¬ (5000 : Int) < ((tx l).size : Int) := by rw [tx_size]; omega
  clear hE hl hk
  generalize tx l = s at *
  go_enter Tryz.func4, Tryz.ntmps4
  go_wp2_with fail
  refine (HK.out _).mono ?_
  rintro e w1 ⟨rfl, hf⟩
  have HF1 := Lib.hid hf
  clear hf
  go_wp2_with fail
  refine (HR.out _).mono ?_
  rintro e w2 ⟨rfl, hf⟩
  have HF2 := Lib.hid (HF1.out.trans hf)
  clear hf
  go_wp2_with fail
  refine (HR.out _).mono ?_
  rintro e w3 ⟨rfl, hf⟩
  have HF3 := Lib.hid (HF2.out.trans hf)
  clear hf
  go_wp2_with fail
  refine (HA.out _ HF3.out).mono ?_
  rintro e w4 ⟨rfl, hf⟩
  have HF4 := Lib.hid (HF3.out.trans hf)
  clear hf
  go_wp2
  go_ret
  exact ⟨rfl, HF4.out⟩

set_option maxRecDepth 100000 in
set_option maxHeartbeats 2000000 in
theorem keys_too (l : List UInt8) (n : Int) (w : World) (hl : l.length ≤ 5000) (hk : keyB l = true) (h4 : 4096 < l.length) (hE : Env w) : Calls Tryz.prog 4 #[.string (tx l), .int .i64 n] w fun e w' => e = .returned (.bool true) ∧ Fresh w w' := by
  have HA : Hid (∀ W, Fresh w W → Calls Tryz.prog 6 #[] W fun e w' => e = .returned (.bool true) ∧ Fresh W w') := fun W f => awake_any W (hE.move f)
  have HK : Hid (∀ W : World, Calls Tryz.prog 12 #[.string (tx l)] W fun e w' => e = .returned (.bool true) ∧ Fresh W w') := fun W => by have k := key_any l W (by omega); rwa [hk] at k
  have HR : Hid (∀ W : World, Calls Tryz.prog 13 #[.string (tx l)] W fun e w' => e = .returned (.bool true) ∧ Fresh W w') := fun W => by have k := rkey_any l W (by omega); rwa [hk] at k
  have hs' : ¬ (5000 : Int) < ((tx l).size : Int) := by rw [tx_size]; omega
  have hcat : tx l ++ (⟨#[58, 32, 116, 114, 117, 101]⟩ : ByteArray) = tx (l ++ trueL) := tx_app l trueL
  have hsz : ¬ 9223372036854775807 < (tx l).size + 6 := by rw [tx_size]; omega
  have hlt : (4096 : Int) < ((tx l).size : Int) := by rw [tx_size]; omega
  have HP : Hid (∀ W, Fresh w W → Calls Tryz.prog 7 #[.string (tx (l ++ trueL))] W fun e w' => (∃ m : v.M, e = .returned (.tuple #[m.val, .agg #[.int .i64 0, .int .i64 2]]) ∧ m.plain = zV ∧ m.New W.heap.size w') ∧ Fresh W w') := fun W f => by
    have k := parse_keyed l hk hl W (hE.move f)
    rw [if_pos h4, if_pos h4] at k
    exact k
  clear hE hl hk h4
  generalize tx (l ++ trueL) = st at *
  generalize tx l = s at *
  go_enter Tryz.func4, Tryz.ntmps4
  go_wp2_with fail
  refine (HK.out _).mono ?_
  rintro e w1 ⟨rfl, hf⟩
  have HF1 := Lib.hid hf
  clear hf
  go_wp2_with fail
  refine (HR.out _).mono ?_
  rintro e w2 ⟨rfl, hf⟩
  have HF2 := Lib.hid (HF1.out.trans hf)
  clear hf
  go_wp2_with fail
  refine (HR.out _).mono ?_
  rintro e w2' ⟨rfl, hf⟩
  have HF2' := Lib.hid (HF2.out.trans hf)
  clear hf
  go_wp2_with fail
  refine (HP.out _ HF2'.out).mono ?_
  rintro e w3 ⟨⟨m, rfl, hp, hn⟩, hf⟩
  have HPL := Lib.hid hp
  have HNW := Lib.hid hn
  have HF3 := Lib.hid (HF2'.out.trans hf)
  clear hp hn hf
  obtain ⟨mk, mf, mn, ms, mla, mlc, ml, mka, mkc, mks⟩ := m
  dsimp only [v.M.val]
  have HTW : Hid (Two w3 ((w3.alloc (.cells #[.int .i64 mk, .bool mf, .int .i64 mn, .string ms, .slice mla ml.length mlc, .slice mka mks.length mkc] 27 (0, 0))).alloc (.cells #[.int .i64 0, .int .i64 2] 30 (0, 0))) (.mk mk mf mn ms mla mlc ml mka mkc mks) w3.heap.size 2) := two_new w3 (.mk mk mf mn ms mla mlc ml mka mkc mks) 2
  go_wp2_with fail
  generalize (w3.alloc (.cells #[.int .i64 mk, .bool mf, .int .i64 mn, .string ms, .slice mla ml.length mlc, .slice mka mks.length mkc] 27 (0, 0))).alloc (.cells #[.int .i64 0, .int .i64 2] 30 (0, 0)) = w0 at *
  generalize w3.heap.size = g at *
  refine (HA.out _ (HF3.out.trans HTW.out.fr)).mono ?_
  rintro e w4 ⟨rfl, hf4⟩
  have q2 := v.Fresh.at hf4 HTW.out.mb
  have d0 : w4.cell? ⟨g + 1, 0, none⟩ = some (.int .i64 0) := cell_of_at q2 rfl
  have d1 : w4.cell? ⟨g + 1, 1, none⟩ = some (.int .i64 2) := cell_of_at q2 rfl
  have HF4 := Lib.hid ((HF3.out.trans HTW.out.fr).trans hf4)
  clear hf4 q2 HTW
  go_wp2
  go_ret
  exact ⟨rfl, HF4.out⟩
set_option maxRecDepth 100000 in
set_option maxHeartbeats 2000000 in
theorem keys_good (l : List UInt8) (n : Int) (w : World) (hk : keyB l = true) (h4 : ¬ 4096 < l.length) (hE : Env w) : Calls Tryz.prog 4 #[.string (tx l), .int .i64 n] w fun e w' => e = .returned (.bool true) ∧ Fresh w w' := by
  have HA : Hid (∀ W, Fresh w W → Calls Tryz.prog 6 #[] W fun e w' => e = .returned (.bool true) ∧ Fresh W w') := fun W f => awake_any W (hE.move f)
  have HK : Hid (∀ W : World, Calls Tryz.prog 12 #[.string (tx l)] W fun e w' => e = .returned (.bool true) ∧ Fresh W w') := fun W => by have k := key_any l W (by omega); rwa [hk] at k
  have HR : Hid (∀ W : World, Calls Tryz.prog 13 #[.string (tx l)] W fun e w' => e = .returned (.bool true) ∧ Fresh W w') := fun W => by have k := rkey_any l W (by omega); rwa [hk] at k
  have hs' : ¬ (5000 : Int) < ((tx l).size : Int) := by rw [tx_size]; omega
  have hcat : tx l ++ (⟨#[58, 32, 116, 114, 117, 101]⟩ : ByteArray) = tx (l ++ trueL) := tx_app l trueL
  have hsz : ¬ 9223372036854775807 < (tx l).size + 6 := by rw [tx_size]; omega
  have hlt : ¬ (4096 : Int) < ((tx l).size : Int) := by rw [tx_size]; omega
  have HP : Hid (∀ W, Fresh w W → Calls Tryz.prog 7 #[.string (tx (l ++ trueL))] W fun e w' => (∃ m : v.M, e = .returned (.tuple #[m.val, .agg #[.int .i64 0, .int .i64 0]]) ∧ m.plain = vKeys [(tx l, vFlag true)] ∧ m.New W.heap.size w') ∧ Fresh W w') := fun W f => by
    have k := parse_keyed l hk (by omega) W (hE.move f)
    rw [if_neg h4, if_neg h4] at k
    exact k
  have HG := Lib.hid (fun (m : v.M) (W : World) (hp : m.plain = vKeys [(tx l, vFlag true)]) (hm : m.At W) => get_keyed m l W hp hm)
  have HONE : Hid (∀ m : v.M, m.plain = vKeys [(tx l, vFlag true)] → ∃ mk mf mn ms mla mlc ml mka mkc p, m = .mk mk mf mn ms mla mlc ml mka mkc [p]) := fun m h => keys_one h
  have HY := Lib.hid (fun W => yes_raw true W)
  clear hE hk h4
  generalize tx (l ++ trueL) = st at *
  generalize tx l = s at *
  go_enter Tryz.func4, Tryz.ntmps4
  go_wp2_with fail
  refine (HK.out _).mono ?_
  rintro e w1 ⟨rfl, hf⟩
  have HF1 := Lib.hid hf
  clear hf
  go_wp2_with fail
  refine (HR.out _).mono ?_
  rintro e w2 ⟨rfl, hf⟩
  have HF2 := Lib.hid (HF1.out.trans hf)
  clear hf
  go_wp2_with fail
  refine (HR.out _).mono ?_
  rintro e w2' ⟨rfl, hf⟩
  have HF2' := Lib.hid (HF2.out.trans hf)
  clear hf
  go_wp2_with fail
  refine (HP.out _ HF2'.out).mono ?_
  rintro e w3 ⟨⟨m, rfl, hp, hn⟩, hf⟩
  have HPL := Lib.hid hp
  have HNW := Lib.hid hn
  have HF3 := Lib.hid (HF2'.out.trans hf)
  clear hp hn hf
  obtain ⟨mk, mf, mn, ms, mla, mlc, ml, mka, mkc, p, rfl⟩ := HONE.out m HPL.out
  dsimp only [v.M.val, List.length_cons, List.length_nil, Nat.zero_add]
  have HTW : Hid (Two w3 ((w3.alloc (.cells #[.int .i64 mk, .bool mf, .int .i64 mn, .string ms, .slice mla ml.length mlc, .slice mka 1 mkc] 27 (0, 0))).alloc (.cells #[.int .i64 0, .int .i64 0] 30 (0, 0))) (.mk mk mf mn ms mla mlc ml mka mkc [p]) w3.heap.size 0) := two_new w3 (.mk mk mf mn ms mla mlc ml mka mkc [p]) 0
  go_wp2_with fail
  generalize (w3.alloc (.cells #[.int .i64 mk, .bool mf, .int .i64 mn, .string ms, .slice mla ml.length mlc, .slice mka 1 mkc] 27 (0, 0))).alloc (.cells #[.int .i64 0, .int .i64 0] 30 (0, 0)) = w0 at *
  generalize w3.heap.size = g at *
  refine (HG.out (.mk mk mf mn ms mla mlc ml mka mkc [p]) w0 HPL.out (HNW.out.move HTW.out.fr).at).mono ?_
  rintro e w4 ⟨⟨x, rfl, hxp, hxa⟩, hf4⟩
  have HXP := Lib.hid hxp
  have HXA := Lib.hid hxa
  have HVB := Lib.hid (v.Fresh.at hf4 HTW.out.vb)
  have HMB := Lib.hid (v.Fresh.at hf4 HTW.out.mb)
  have HF4 := Lib.hid ((HF3.out.trans HTW.out.fr).trans hf4)
  clear hxp hxa hf4 HTW
  obtain ⟨xk, xf, xn, xs, xla, xlc, xl, xka, xkc, xks⟩ := x
  dsimp only [v.M.val]
  have HF5 : Hid (Fresh w (w4.alloc (.cells #[.int .i64 xk, .bool xf, .int .i64 xn, .string xs, .slice xla xl.length xlc, .slice xka xks.length xkc] 27 (0, 0)))) := HF4.out.alloc _
  have HXB : Hid ((w4.alloc (.cells #[.int .i64 xk, .bool xf, .int .i64 xn, .string xs, .slice xla xl.length xlc, .slice xka xks.length xkc] 27 (0, 0))).heap[w4.heap.size]? = some (.cells #[.int .i64 xk, .bool xf, .int .i64 xn, .string xs, .slice xla xl.length xlc, .slice xka xks.length xkc] 27 (0, 0))) := v.at_new w4 _
  have HVB5 := Lib.hid (v.Fresh.at ((Fresh.refl w4).alloc (.cells #[.int .i64 xk, .bool xf, .int .i64 xn, .string xs, .slice xla xl.length xlc, .slice xka xks.length xkc] 27 (0, 0))) HVB.out)
  have HMB5 := Lib.hid (v.Fresh.at ((Fresh.refl w4).alloc (.cells #[.int .i64 xk, .bool xf, .int .i64 xn, .string xs, .slice xla xl.length xlc, .slice xka xks.length xkc] 27 (0, 0))) HMB.out)
  have HX45 : Hid (Fresh w4 (w4.alloc (.cells #[.int .i64 xk, .bool xf, .int .i64 xn, .string xs, .slice xla xl.length xlc, .slice xka xks.length xkc] 27 (0, 0)))) := (Fresh.refl w4).alloc _
  clear HVB HMB
  go_wp2_with fail
  generalize (w4.alloc (.cells #[.int .i64 xk, .bool xf, .int .i64 xn, .string xs, .slice xla xl.length xlc, .slice xka xks.length xkc] 27 (0, 0))) = w5 at *
  generalize w4.heap.size = gx at *
  have HKP : Hid (∀ W : World, Fresh w5 W → (W.cell? ⟨gx, 0, none⟩ = some (.int .i64 xk) ∧ W.cell? ⟨gx, 1, none⟩ = some (.bool xf) ∧ W.cell? ⟨gx, 2, none⟩ = some (.int .i64 xn) ∧ W.cell? ⟨gx, 3, none⟩ = some (.string xs) ∧ W.cell? ⟨gx, 4, none⟩ = some (.slice xla xl.length xlc) ∧ W.cell? ⟨gx, 5, none⟩ = some (.slice xka xks.length xkc) ∧ W.cell? ⟨g + 1, 0, none⟩ = some (.int .i64 0) ∧ W.cell? ⟨g + 1, 1, none⟩ = some (.int .i64 0) ∧ W.cell? ⟨g, 5, none⟩ = some (.slice mka 1 mkc))) := fun W f => by
    have h1 := v.Fresh.at f HXB.out
    have h2 := v.Fresh.at f HMB5.out
    have h3 := v.Fresh.at f HVB5.out
    exact ⟨cell_of_at h1 rfl, cell_of_at h1 rfl, cell_of_at h1 rfl, cell_of_at h1 rfl, cell_of_at h1 rfl, cell_of_at h1 rfl, cell_of_at h2 rfl, cell_of_at h2 rfl, cell_of_at h3 rfl⟩
  obtain ⟨k0, k1, k2, k3, k4, k5, k6, k7, k8⟩ := HKP.out w5 (.refl _)
  have HK0 : Hid (Fresh w5 w5.drew) := (Fresh.refl w5).drew
  have HSM : Hid (∀ W : World, Fresh w5 W → Calls Tryz.prog 15 #[v.mval xk xf xn xs xla xl.length xlc xka xks.length xkc, .agg #[.int .i64 1, .bool true, .int .i64 0, .string ⟨#[]⟩, .slice none 0 0, .slice none 0 0]] W fun e w' => e = .returned (.bool true) ∧ Fresh W w') :=
    fun W f => same_yes (.mk xk xf xn xs xla xlc xl xka xkc xks) W (HXA.out.move (HX45.out.trans f)) HXP.out
  have HYS : Hid (∀ W : World, Calls Tryz.prog 16 #[.bool true] W fun e w' => e = .returned (.agg #[.int .i64 1, .bool true, .int .i64 0, .string ⟨#[]⟩, .slice none 0 0, .slice none 0 0]) ∧ Fresh W w') := HY.out
  clear HXB HVB5 HMB5 HY
  go_region_held3 (fun w' => (w'.cell? ⟨gx, 0, none⟩ = some (.int .i64 xk) ∧ w'.cell? ⟨gx, 1, none⟩ = some (.bool xf) ∧ w'.cell? ⟨gx, 2, none⟩ = some (.int .i64 xn) ∧ w'.cell? ⟨gx, 3, none⟩ = some (.string xs) ∧ w'.cell? ⟨gx, 4, none⟩ = some (.slice xla xl.length xlc) ∧ w'.cell? ⟨gx, 5, none⟩ = some (.slice xka xks.length xkc) ∧ w'.cell? ⟨g + 1, 0, none⟩ = some (.int .i64 0) ∧ w'.cell? ⟨g + 1, 1, none⟩ = some (.int .i64 0) ∧ w'.cell? ⟨g, 5, none⟩ = some (.slice mka 1 mkc))) (go_keep)
    (first
      | (go_at_call 6; (with_reducible refine (HA.out _ HF5.out.drew).mono ?_); rintro e W1 ⟨rfl, hf⟩; obtain ⟨k0, k1, k2, k3, k4, k5, k6, k7, k8⟩ := HKP.out W1 (HK0.out.trans hf); have HK1 := Lib.hid (HK0.out.trans hf); clear hf)
      | (go_at_call 16; (with_reducible refine (HYS.out _).mono ?_); rintro e W2 ⟨rfl, hf⟩; obtain ⟨k0, k1, k2, k3, k4, k5, k6, k7, k8⟩ := HKP.out W2 (HK1.out.trans hf); have HK2 := Lib.hid (HK1.out.trans hf); clear hf)
      | (go_at_call 15; (with_reducible refine (HSM.out _ HK2.out).mono ?_); rintro e W3 ⟨rfl, hf⟩; obtain ⟨k0, k1, k2, k3, k4, k5, k6, k7, k8⟩ := HKP.out W3 (HK2.out.trans hf); have HK3 := Lib.hid (HK2.out.trans hf); clear hf))
  go_wp2
  go_ret
  exact ⟨rfl, HF5.out.trans HK3.out⟩
theorem keys_main (s : ByteArray) (n : Int) (w : World) (hE : Env w) : Calls Tryz.prog 4 #[.string s, .int .i64 n] w fun e w' => e = .returned (.bool true) ∧ Fresh w w' := by
  by_cases h5 : 5000 < s.size
  · exact keys_long s n w h5 hE
  · have hsl : s.data.toList.length = s.size := Array.length_toList
    have e := tx_of s
    generalize s.data.toList = l at *
    subst e
    cases hk : keyB l with
    | false => exact keys_not l n w (by omega) hk hE
    | true =>
      by_cases h4 : 4096 < l.length
      · exact keys_too l n w (by omega) hk h4 hE
      · exact keys_good l n w hk h4 hE
end Go.Proofs.YthhdadfnkdjmkaaGreatDoor.y
namespace Go.Proofs.YthhdadfnkdjmkaaGreatDoor.y.yamlKeys
open Go.ChangeShapes Go.WideShapes Go.ChangeAt Go.RowKit Go.Shelf
open Go.ChangeMaps (open_string shut_string)
set_option linter.unusedVariables false

theorem witness_row (os : Os) {H : Type} (enc : TypeId × Value → H) :
    (OpenSpec.ofChange Rows.yamlKeysSpec).preRow enc Tryz.prog Tryz.f4 Rows.yamlKeysRow.domain false Rows.yamlKeysRow.laid ((laidWorld os).forCall (fun _ _ => 0) ⟨#[], #[.string ⟨#[]⟩, .int .i64 0], []⟩).memory #[.string ⟨#[]⟩, .int .i64 0] := by
  have hw : (DataW.whole enc Tryz.prog ((laidWorld os).forCall (fun _ _ => 0) ⟨#[], #[.string ⟨#[]⟩, .int .i64 0], []⟩).memory Tryz.f4.params.toList (OpenSpec.ofChange Rows.yamlKeysSpec).vars false #[Value.string ⟨#[]⟩, Value.int .i64 0].toList 8).map (fun x => (x.1, x.2.1)) =
      some ([.lit (.string []), .lit (.int .i64 0)], []) := by kernel_rfl
  obtain ⟨⟨x1, x2, x3⟩, hx, hx1⟩ := Option.map_eq_some_iff.1 hw
  simp only [Prod.mk.injEq] at hx1
  obtain ⟨rfl, rfl⟩ := hx1
  exact OpenSpec.preRow_of_cond 8 hx (by kernel_rfl) (fun k hk => by cases hk) (by kernel_rfl) (laid_met os _)
set_option maxRecDepth 100000 in
set_option maxHeartbeats 2000000 in
theorem lifted (os : Os) (started : os.Started) (H : Type) (enc : TypeId × Value → H) (F : Stop.Interp) :
    ReturnsInHanded {} Tryz.checked os 4 .any ((OpenSpec.ofChange Rows.yamlKeysSpec).preRow enc Tryz.prog Tryz.f4 Rows.yamlKeysRow.domain false Rows.yamlKeysRow.laid) (((OpenSpec.ofChange Rows.yamlKeysSpec).at F).post enc Tryz.prog Tryz.f4 false true false false) := by
  refine returnsInHanded_of_row (C := Tryz.checked) (s := OpenSpec.ofChange Rows.yamlKeysSpec) lown started (by kernel_rfl) Tryz.func4
    (witness_row_atRef (enc := enc) (C := Tryz.checked) false (laidWorld os) #[.string ⟨#[]⟩, .int .i64 0] rfl (by kernel_rfl) (by kernel_rfl) (by kernel_rfl) (witness_row os enc)) ?_
  intro W base args ds gs before hval0 hW _ _ hsz hL0 hSH _
  have hL : laidMet Tryz.prog theLaid W := hL0
  have hval : ∀ (j : Nat) t v, Tryz.f4.params[j]? = some t → args[j]? = some v → Value.okWide Tryz.prog W .any base t v := hval0
  have hW' := hW
  obtain ⟨p, q, hA0, hV0, rfl, _, _⟩ := hW
  have hA : DataW.TrodAll enc Tryz.prog W 0 (fun _ => true) true Tryz.f4.params.toList args.toList ds p := hA0
  rw [Tryz.params4] at hA hval
  obtain ⟨v0, vs0, d0, ds0, p0, q0, hargs, rfl, rfl, h0, r0⟩ := trodAll_cons hA
  obtain ⟨v1, vs1, d1, ds1, p1, q1, rfl, rfl, rfl, h1, r1⟩ := trodAll_cons r0
  obtain ⟨rfl, rfl, rfl⟩ := trodAll_nil r1
  obtain rfl : args = #[v0, v1] := by cases args; simp_all
  obtain ⟨rfl, rfl⟩ := trodVars_none hV0
  obtain ⟨a0, rfl, rfl, rfl, w0⟩ := open_string Tryz.underlying9 (hval 0 9 v0 rfl rfl) h0
  obtain ⟨a1, rfl, rfl, rfl, w1⟩ := open_int Tryz.underlying2 (hval 1 2 v1 rfl rfl) h1
  refine (keys_main a0 a1 W (the_env hL hSH)).mono ?_
  rintro e W' ⟨rfl, hg⟩
  have e1 : ((OpenSpec.ofChange Rows.yamlKeysSpec).at F).fn H ([.lit (.string a0.data.toList), .lit (.int .i64 a1)] ++ []) = { results := [.lit (.bool true)], args := [.lit (.string a0.data.toList), .lit (.int .i64 a1)] } := rfl
  refine ⟨_, rfl, _, _, _, [], [] ++ ([] ++ []), [], hW', ?_, ?_, ?_, hg.frame _, fun h => by cases h⟩
  · rw [e1]; exact trodAll_mk1 (shut_bool Tryz.underlying4 _)
  · rw [e1]; exact (trodAll_cons_mk (shut_string Tryz.underlying9 w0) (trodAll_cons_mk (shut_int Tryz.underlying2 w1) trodAll_mk0))
  · rw [e1]; rfl
theorem row_holds : Rows.YamlKeysSaid :=
  OpenClaim.holds_of_cond 4 Tryz.f4 rfl rfl rfl rfl rfl rfl rfl ⟨rfl, rfl, rfl, rfl, rfl⟩ rfl rfl rfl rfl rfl (by kernel_rfl) Tryz.func4 (by kernel_rfl)
    (of_decide_eq_true (by kernel_rfl)) (by unfold Func.isWrapper; first | (rw [if_neg (of_decide_eq_false (by kernel_rfl))]; exact ⟨rfl, rfl⟩) | (rw [if_pos (by decide +kernel)]; kernel_rfl))
    (fun os started H enc _ F0 => by rw [OpenClaim.pre_eq_preRow]; exact lifted os started H enc F0)
theorem yamlkeys : Rows.YamlKeysCardSaid :=
  Claim7.holds_tied_plain_at .later [] [.data, .data, .data, .data, .sentinel, .sentinel, .pinned] true (true, "a5524d974ff846e7f059c52b88a66d16522f13caf2dcb8270683f243fed1b86d") true
    row_holds (fun _ h => by cases h) (by kernel_rfl) (fun _ h => by cases h) yamlKeys_row_tie rfl ⟨rfl, rfl⟩ (by kernel_rfl) rfl
    (fun f fn hf hfn => by
      obtain rfl : f = 4 := Option.some.inj ((show Tryz.prog.funcNamed "bosun/bosunlaw11.YamlKeys" = some 4 by kernel_rfl).symm.trans hf) |>.symm
      obtain rfl : fn = Tryz.f4 := (Option.some.inj (Tryz.func4.symm.trans hfn)).symm
      exact ⟨by kernel_rfl, fun j t ht => by
        rw [Tryz.params4] at ht
        have h3 : t = 9 ∨ t = 2 := by
          rcases j with _ | _ | j
          · exact .inl (by simpa using ht.symm)
          · exact .inr (by simpa using ht.symm)
          · simp at ht
        rcases h3 with rfl | rfl
        · exact (show Tryz.prog.wantsStandIn 9 = false by kernel_rfl)
        · exact (show Tryz.prog.wantsStandIn 2 = false by kernel_rfl)⟩)
    (by kernel_rfl)
end Go.Proofs.YthhdadfnkdjmkaaGreatDoor.y.yamlKeys
