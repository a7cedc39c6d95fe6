/-
  Package utf's reader, of whatever text: numbers of four digits, pairs of halves, escapes by number.
-/
import Derived.Test.YtajmhllldocpjaaDoorRead2
import Derived.Lib.RuneBytes
namespace Go.Proofs.YtajmhllldocpjaaDoor
open Go.ChangeShapes Go.WideShapes Go.ChangeAt Go.RowKit
attribute [local go_sem ↓] Go.wp_at_zero Go.wp_at_succ
variable {w : World}

/-- What a digit says; -1: it is none. -/
def hexv (c : UInt8) : Int := if 48 ≤ c.toNat ∧ c.toNat ≤ 57 then (c.toNat : Int) - 48 else if 97 ≤ c.toNat ∧ c.toNat ≤ 102 then (c.toNat : Int) - 87 else if 65 ≤ c.toNat ∧ c.toNat ≤ 70 then (c.toNat : Int) - 55 else -1
theorem hexv_bd (c : UInt8) : -1 ≤ hexv c ∧ hexv c ≤ 15 := by
  unfold hexv
  repeat' split
  all_goals omega
theorem digit_yes (c : UInt8) (w : World) (h : 0 ≤ hexv c) : Calls Tryd.prog 62 #[.int .u8 (c.toNat : Int)] w fun e w' => e = .returned (.tuple #[.int .i32 (hexv c), .bool true]) ∧ w = w' := by
  by_cases h1 : 48 ≤ c.toNat ∧ c.toNat ≤ 57
  · rw [hexv, if_pos h1]
    exact digit_num c w h1.1 h1.2
  by_cases h2 : 97 ≤ c.toNat ∧ c.toNat ≤ 102
  · rw [hexv, if_neg h1, if_pos h2]
    exact digit_low c w h2.1 h2.2
  by_cases h3 : 65 ≤ c.toNat ∧ c.toNat ≤ 70
  · rw [hexv, if_neg h1, if_neg h2, if_pos h3]
    have a0 : (65 : Int) ≤ (c.toNat : Int) := by omega
    have a1 : (c.toNat : Int) ≤ 70 := by omega
    have a2 : ¬ (c.toNat : Int) ≤ 57 := by omega
    have a3 : (48 : Int) ≤ (c.toNat : Int) := by omega
    have a4 : ¬ (97 : Int) ≤ (c.toNat : Int) := by omega
    have HE : Hid ((c.toNat : Int) - 55 = (c.toNat : Int) - 65 + 10) := by rw [Hid]; omega
    clear h h1 h2 h3
    go_enter Tryd.func62, Tryd.ntmps62
    go_wp2
    go_ret2
    exact ⟨by rw [HE.out]; rfl, rfl⟩
  · rw [hexv, if_neg h1, if_neg h2, if_neg h3] at h
    omega
theorem digit_no (c : UInt8) (w : World) (h : hexv c < 0) : Calls Tryd.prog 62 #[.int .u8 (c.toNat : Int)] w fun e w' => e = .returned (.tuple #[.int .i32 0, .bool false]) ∧ w = w' := by
  have hc : c.toNat < 48 ∨ (58 ≤ c.toNat ∧ c.toNat < 65) ∨ (71 ≤ c.toNat ∧ c.toNat < 97) ∨ 103 ≤ c.toNat := by
    unfold hexv at h
    repeat' split at h
    all_goals omega
  clear h
  rcases hc with h | h | h | h
  · have a0 : ¬ (48 : Int) ≤ (c.toNat : Int) := by omega
    have a1 : ¬ (97 : Int) ≤ (c.toNat : Int) := by omega
    have a2 : ¬ (65 : Int) ≤ (c.toNat : Int) := by omega
    clear h
    go_enter Tryd.func62, Tryd.ntmps62
    go_wp2
    go_ret2
    exact ⟨rfl, rfl⟩
  · have a0 : (48 : Int) ≤ (c.toNat : Int) := by omega
    have a3 : ¬ (c.toNat : Int) ≤ 57 := by omega
    have a1 : ¬ (97 : Int) ≤ (c.toNat : Int) := by omega
    have a2 : ¬ (65 : Int) ≤ (c.toNat : Int) := by omega
    clear h
    go_enter Tryd.func62, Tryd.ntmps62
    go_wp2
    go_ret2
    exact ⟨rfl, rfl⟩
  · have a0 : (48 : Int) ≤ (c.toNat : Int) := by omega
    have a3 : ¬ (c.toNat : Int) ≤ 57 := by omega
    have a1 : ¬ (97 : Int) ≤ (c.toNat : Int) := by omega
    have a2 : (65 : Int) ≤ (c.toNat : Int) := by omega
    have a4 : ¬ (c.toNat : Int) ≤ 70 := by omega
    clear h
    go_enter Tryd.func62, Tryd.ntmps62
    go_wp2
    go_ret2
    exact ⟨rfl, rfl⟩
  · have a0 : (48 : Int) ≤ (c.toNat : Int) := by omega
    have a3 : ¬ (c.toNat : Int) ≤ 57 := by omega
    have a1 : (97 : Int) ≤ (c.toNat : Int) := by omega
    have a5 : ¬ (c.toNat : Int) ≤ 102 := by omega
    have a2 : (65 : Int) ≤ (c.toNat : Int) := by omega
    have a4 : ¬ (c.toNat : Int) ≤ 70 := by omega
    clear h
    go_enter Tryd.func62, Tryd.ntmps62
    go_wp2
    go_ret2
    exact ⟨rfl, rfl⟩
/-- So many digits, behind others that say n: the code, the number, what is left. -/
def numF : Nat → Int → List UInt8 → Int × Int × List UInt8
  | 0, n, l => (0, n, l)
  | _ + 1, _, [] => (11, 0, [])
  | k + 1, n, c :: l => if hexv c < 0 then (6, 0, []) else numF k (n * 16 + hexv c) l
theorem numF_err : ∀ (k : Nat) (n : Int) (l : List UInt8), (numF k n l).1 ≠ 0 → (numF k n l).2.1 = 0
  | 0, n, l, h => by simp [numF] at h
  | k + 1, n, [], _ => rfl
  | k + 1, n, c :: l, h => by
    rw [numF] at h ⊢
    by_cases hc : hexv c < 0
    · rw [if_pos hc]
    · rw [if_neg hc] at h ⊢
      exact numF_err k _ l h
theorem numF_bd : ∀ (k : Nat) (n : Int) (l : List UInt8), 0 ≤ n → 0 ≤ (numF k n l).2.1 ∧ (numF k n l).2.1 < (n + 1) * 16 ^ k
  | 0, n, l, h => by simp [numF]; omega
  | k + 1, n, [], h => by
    have h1 : (0 : Int) < 16 ^ (k + 1) := Int.pow_pos (by decide)
    have h2 : 0 < (n + 1) * (16 : Int) ^ (k + 1) := Int.mul_pos (by omega) h1
    exact ⟨Int.le_refl _, h2⟩
  | k + 1, n, c :: l, h => by
    have hb := hexv_bd c
    rw [numF]
    by_cases hc : hexv c < 0
    · rw [if_pos hc]
      have h1 : (0 : Int) < 16 ^ (k + 1) := Int.pow_pos (by decide)
      exact ⟨Int.le_refl _, Int.mul_pos (by omega) h1⟩
    · rw [if_neg hc]
      have ih := numF_bd k (n * 16 + hexv c) l (by omega)
      refine ⟨ih.1, Int.lt_of_lt_of_le ih.2 ?_⟩
      have h1 : (0 : Int) ≤ 16 ^ k := Int.le_of_lt (Int.pow_pos (by decide))
      have h2 : (n * 16 + hexv c + 1) * (16 : Int) ^ k ≤ ((n + 1) * 16) * 16 ^ k := Int.mul_le_mul_of_nonneg_right (by omega) h1
      rw [Int.pow_succ, Int.mul_comm ((16 : Int) ^ k) 16, ← Int.mul_assoc]
      exact h2
theorem numF_four (l : List UInt8) : 0 ≤ (numF 4 0 l).2.1 ∧ (numF 4 0 l).2.1 ≤ 65535 := by
  have := numF_bd 4 0 l (Int.le_refl _)
  simp at this
  omega
theorem pow16 (k : Nat) (h : k < 4) : (16 : Int) ^ k ≤ 4096 := by
  have : k = 0 ∨ k = 1 ∨ k = 2 ∨ k = 3 := by omega
  rcases this with rfl | rfl | rfl | rfl <;> decide
set_option maxRecDepth 100000 in
set_option maxHeartbeats 2000000 in
theorem number_all (b : Nat) (l : List UInt8) (v : Value) (text : List UInt8) (w : World) (h : Rdr w b l v text) :
    Calls Tryd.prog 54 #[.pointer (some ⟨b, 0, none⟩)] w fun e w' => e = .returned (.tuple #[.int .i32 (numF 4 0 l).2.1, .int .i64 (numF 4 0 l).1]) ∧ ((numF 4 0 l).1 = 0 → Rdr w' b (numF 4 0 l).2.2 v text) ∧ Below b w w' := by
  have H := Lib.hid h
  clear h
  generalize hF : numF 4 0 l = F
  have HF := Lib.hid hF
  clear hF
  go_enter Tryd.func54, Tryd.ntmps54
  go_wp2
  go_loopw [4, 7] (fun a4 a7 wr => ∃ (k : Nat) (n : Int) (l2 : List UInt8), k ≤ 4 ∧ a7 = .int .i64 k ∧ a4 = .int .i32 n ∧ 0 ≤ n ∧ Hid (n < 16 ^ k) ∧ Hid (F = numF (4 - k) n l2) ∧ Hid (Rdr wr b l2 v text) ∧ Hid (Below b w wr)) (fun _ a7 _ => 4 - (intOf a7).toNat)
  case atStart => exact ⟨0, 0, l, by omega, rfl, rfl, by omega, by rw [Hid]; decide, HF.out.symm, H.out, Below.refl _ _⟩
  case round =>
    obtain ⟨k, n, l2, hk, rfl, rfl, hn0, HN, HE, HR, HB⟩ := hrel
    by_cases hlt : k < 4
    · have h4 : 4 - k = (4 - (k + 1)) + 1 := by omega
      have hp := pow16 k hlt
      have hn1 : n ≤ 4095 := by have := HN.out; omega
      clear hp
      rcases l2 with _ | ⟨c, l3⟩
      · have HX : Hid (F = (11, 0, [])) := by rw [Hid, HE.out, h4, numF]
        have c0 := HR.out.c0
        have e0 : bs [] = ⟨#[]⟩ := rfl
        rw [e0] at c0
        clear e0 h4
        go_wp2
        go_ret2
        rw [HX.out]
        exact ⟨rfl, (fun e => by simp at e), HB.out⟩
      · have hR := HR.out
        have c0 := hR.c0
        have f0 := hR.f0
        have HR1 := Lib.hid (hR.set0 (r2 := l3))
        obtain ⟨p1, p2, p3, p4⟩ := bs_cons c l3
        have hb := hexv_bd c
        by_cases hc : hexv c < 0
        · have HX : Hid (F = (6, 0, [])) := by rw [Hid, HE.out, h4, numF, if_pos hc]
          have HDG := Lib.hid (fun W => digit_no c W hc)
          generalize bs (c :: l3) = r at *
          clear h4 hR hb hc
          go_wp2_with fail
          refine (HDG.out _).mono ?_
          rintro e w' ⟨rfl, rfl⟩
          go_wp2
          go_ret2
          rw [HX.out]
          exact ⟨rfl, (fun e => by simp at e), HB.out⟩
        · have HX : Hid (F = numF (4 - (k + 1)) (n * 16 + hexv c) l3) := by rw [Hid, HE.out, h4, numF, if_neg hc]
          have HDG := Lib.hid (fun W => digit_yes c W (by omega))
          have HN2 : Hid (n * 16 + hexv c < 16 ^ (k + 1)) := by
            have := HN.out
            rw [Hid, Int.pow_succ]
            generalize (16 : Int) ^ k = t at *
            omega
          obtain ⟨_, d1⟩ := hb
          have d0 : 0 ≤ hexv c := by omega
          generalize hexv c = d at *
          generalize bs (c :: l3) = r at *
          generalize bs l3 = r1 at *
          clear h4 hR hc
          go_wp2_with fail
          refine (HDG.out _).mono ?_
          rintro e w' ⟨rfl, rfl⟩
          go_wp2
          go_roundw
          case rel => exact ⟨k + 1, n * 16 + d, l3, by omega, by go_num, rfl, by omega, HN2.out, HX.out, HR1.out, HB.out.trans Rdr.below0⟩
          case measure => simp [intOf]; omega
    · obtain rfl : k = 4 := by omega
      have HX : Hid (F = (0, n, l2)) := by rw [Hid, HE.out]; rfl
      clear HE HN
      go_wp2
      go_ret2
      rw [HX.out]
      exact ⟨rfl, fun _ => HR.out, HB.out⟩
def firstB (n : Int) : Bool := decide (55296 ≤ n ∧ n < 56320)
def secondB (n : Int) : Bool := decide (56320 ≤ n ∧ n < 57344)
theorem first_all (n : Int) (w : World) (h0 : 0 ≤ n) (h1 : n ≤ 2000000) : Calls Tryd.prog 55 #[.int .i32 n] w fun e w' => e = .returned (.bool (firstB n)) ∧ w = w' := by
  by_cases a : 55296 ≤ n
  · by_cases b : n < 56320
    · have H : Hid (firstB n = true) := decide_eq_true ⟨a, b⟩
      go_enter Tryd.func55, Tryd.ntmps55
      go_wp2
      go_ret
      exact ⟨by rw [H.out]; rfl, rfl⟩
    · have H : Hid (firstB n = false) := decide_eq_false (by omega)
      go_enter Tryd.func55, Tryd.ntmps55
      go_wp2
      go_ret
      exact ⟨by rw [H.out]; rfl, rfl⟩
  · have H : Hid (firstB n = false) := decide_eq_false (by omega)
    go_enter Tryd.func55, Tryd.ntmps55
    go_wp2
    go_ret
    exact ⟨by rw [H.out]; rfl, rfl⟩
theorem second_all (n : Int) (w : World) (h0 : 0 ≤ n) (h1 : n ≤ 2000000) : Calls Tryd.prog 57 #[.int .i32 n] w fun e w' => e = .returned (.bool (secondB n)) ∧ w = w' := by
  by_cases a : 56320 ≤ n
  · by_cases b : n < 57344
    · have H : Hid (secondB n = true) := decide_eq_true ⟨a, b⟩
      go_enter Tryd.func57, Tryd.ntmps57
      go_wp2
      go_ret
      exact ⟨by rw [H.out]; rfl, rfl⟩
    · have H : Hid (secondB n = false) := decide_eq_false (by omega)
      go_enter Tryd.func57, Tryd.ntmps57
      go_wp2
      go_ret
      exact ⟨by rw [H.out]; rfl, rfl⟩
  · have H : Hid (secondB n = false) := decide_eq_false (by omega)
    go_enter Tryd.func57, Tryd.ntmps57
    go_wp2
    go_ret
    exact ⟨by rw [H.out]; rfl, rfl⟩
theorem has_any (s p : ByteArray) (w : World) : Calls Tryd.prog 63 #[.string s, .string p] w fun e w' => e = .returned (.bool (p.data.toList.isPrefixOf s.data.toList)) ∧ w = w' := by
  refine (Any.strings_HasPrefix Tryd.laysHas s p w).mono ?_
  rintro e w' ⟨h1, h2⟩
  exact ⟨h1, h2.symm⟩
/-- The escape behind the first half of a pair: the code, the character, what is left. -/
def otherF (f : Int) (l : List UInt8) : Int × Int × List UInt8 :=
  if l.isPrefixOf [92, 117] = true then (11, 0, []) else if ([92, 117] : List UInt8).isPrefixOf l = false then (10, 0, []) else
    if (numF 4 0 (l.drop 2)).1 ≠ 0 then ((numF 4 0 (l.drop 2)).1, 0, []) else if secondB (numF 4 0 (l.drop 2)).2.1 = false then (10, 0, [])
    else (0, 65536 + (f - 55296) * 1024 + ((numF 4 0 (l.drop 2)).2.1 - 56320), (numF 4 0 (l.drop 2)).2.2)
theorem two_of {l : List UInt8} (h : ([92, 117] : List UInt8).isPrefixOf l = true) : ∃ r, l = 92 :: 117 :: r := by
  rcases l with _ | ⟨a, _ | ⟨b, l⟩⟩
  · simp at h
  · simp at h
  · simp only [List.isPrefixOf, Bool.and_eq_true, beq_iff_eq] at h
    obtain ⟨rfl, rfl, _⟩ := h
    exact ⟨l, rfl⟩
set_option maxRecDepth 100000 in
set_option maxHeartbeats 2000000 in
theorem other_all (b : Nat) (f : Int) (l : List UInt8) (v : Value) (text : List UInt8) (w : World) (hf0 : 55296 ≤ f) (hf1 : f < 56320) (h : Rdr w b l v text) :
    Calls Tryd.prog 56 #[.pointer (some ⟨b, 0, none⟩), .int .i32 f] w fun e w' => e = .returned (.tuple #[.int .i32 (otherF f l).2.1, .int .i64 (otherF f l).1]) ∧ ((otherF f l).1 = 0 → Rdr w' b (otherF f l).2.2 v text) ∧ Below b w w' := by
  have H := Lib.hid h
  have c0 := h.c0
  have f0 := h.f0
  have HP := Lib.hid (fun W => has_any ⟨#[92, 117]⟩ (bs l) W)
  have HQ := Lib.hid (fun W => has_any (bs l) ⟨#[92, 117]⟩ W)
  rw [bs_toList] at HP HQ
  have e2 : (⟨#[92, 117]⟩ : ByteArray).data.toList = [92, 117] := rfl
  rw [e2] at HP HQ
  clear e2
  cases hp : l.isPrefixOf [92, 117] with
  | true =>
    have HX : Hid (otherF f l = (11, 0, [])) := by rw [Hid, otherF, if_pos hp]
    rw [hp] at HP
    clear h hp HQ
    generalize bs l = r at *
    go_enter Tryd.func56, Tryd.ntmps56
    go_wp2_with fail
    refine (HP.out _).mono ?_
    rintro e w' ⟨rfl, rfl⟩
    go_wp2
    go_ret2
    rw [HX.out]
    exact ⟨rfl, (fun e => by simp at e), Below.refl _ _⟩
  | false =>
    rw [hp] at HP
    cases hq : ([92, 117] : List UInt8).isPrefixOf l with
    | false =>
      have HX : Hid (otherF f l = (10, 0, [])) := by rw [Hid, otherF, if_neg (by rw [hp]; simp), if_pos hq]
      rw [hq] at HQ
      clear h hp hq
      generalize bs l = r at *
      go_enter Tryd.func56, Tryd.ntmps56
      go_wp2_with fail
      refine (HP.out _).mono ?_
      rintro e w' ⟨rfl, rfl⟩
      go_wp2_with fail
      refine (HQ.out _).mono ?_
      rintro e w' ⟨rfl, rfl⟩
      go_wp2
      go_ret2
      rw [HX.out]
      exact ⟨rfl, (fun e => by simp at e), Below.refl _ _⟩
    | true =>
      rw [hq] at HQ
      obtain ⟨r, rfl⟩ := two_of hq
      have hx : otherF f (92 :: 117 :: r) = if (numF 4 0 r).1 ≠ 0 then ((numF 4 0 r).1, 0, []) else if secondB (numF 4 0 r).2.1 = false then (10, 0, []) else (0, 65536 + (f - 55296) * 1024 + ((numF 4 0 r).2.1 - 56320), (numF 4 0 r).2.2) := by
        rw [otherF, if_neg (by rw [hp]; simp), if_neg (by rw [hq]; simp)]
        rfl
      have HN := Lib.hid (number_all b r v text _ (H.out.set0 (r2 := r)))
      have hb := numF_four r
      have q1 : 2 ≤ (bs (92 :: 117 :: r)).size := by rw [bs_size]; simp
      have q2 : (bs (92 :: 117 :: r)).extract 2 (bs (92 :: 117 :: r)).size = bs r := bs_drop 2 (92 :: 117 :: r)
      have hbw := lt_of_at h.box
      generalize bs (92 :: 117 :: r) = s at *
      generalize bs r = s2 at *
      generalize numF 4 0 r = F at *
      obtain ⟨x, n, r2⟩ := F
      dsimp only at hx HN hb
      obtain ⟨n0, n1⟩ := hb
      by_cases hx0 : x = 0
      · subst hx0
        rw [if_neg (by simp)] at hx
        have HS := Lib.hid (fun W => second_all n W n0 (by omega))
        cases hs : secondB n with
        | false =>
          rw [hs, if_pos rfl] at hx
          rw [hs] at HS
          have HX := Lib.hid hx
          clear h hp hq hx hs
          go_enter Tryd.func56, Tryd.ntmps56
          go_wp2_with fail
          refine (HP.out _).mono ?_
          rintro e w' ⟨rfl, rfl⟩
          go_wp2_with fail
          refine (HQ.out _).mono ?_
          rintro e w' ⟨rfl, rfl⟩
          go_wp2_with fail
          refine HN.out.mono ?_
          rintro e w1 ⟨rfl, hr1, hb1⟩
          have HB1 := Lib.hid hb1
          clear hr1 hb1
          go_wp2_with fail
          refine (HS.out _).mono ?_
          rintro e w' ⟨rfl, rfl⟩
          go_wp2
          go_ret2
          rw [HX.out]
          exact ⟨rfl, (fun e => by simp at e), Rdr.below0.trans HB1.out⟩
        | true =>
          rw [hs, if_neg (by simp)] at hx
          have hsn := of_decide_eq_true hs
          obtain ⟨m0, m1⟩ := hsn
          rw [hs] at HS
          have HX := Lib.hid hx
          clear h hp hq hx hs
          go_enter Tryd.func56, Tryd.ntmps56
          go_wp2_with fail
          refine (HP.out _).mono ?_
          rintro e w' ⟨rfl, rfl⟩
          go_wp2_with fail
          refine (HQ.out _).mono ?_
          rintro e w' ⟨rfl, rfl⟩
          go_wp2_with fail
          refine HN.out.mono ?_
          rintro e w1 ⟨rfl, hr1, hb1⟩
          have HR1 := Lib.hid (hr1 trivial)
          have HB1 := Lib.hid hb1
          clear hr1 hb1
          go_wp2_with fail
          refine (HS.out _).mono ?_
          rintro e w' ⟨rfl, rfl⟩
          go_wp2
          go_ret2
          rw [HX.out]
          exact ⟨rfl, fun _ => HR1.out, Rdr.below0.trans HB1.out⟩
      · rw [if_pos hx0] at hx
        have e0 : (x != 0) = true := by simpa using hx0
        have HX := Lib.hid hx
        clear h hp hq hx hx0
        go_enter Tryd.func56, Tryd.ntmps56
        go_wp2_with fail
        refine (HP.out _).mono ?_
        rintro e w' ⟨rfl, rfl⟩
        go_wp2_with fail
        refine (HQ.out _).mono ?_
        rintro e w' ⟨rfl, rfl⟩
        go_wp2_with fail
        refine HN.out.mono ?_
        rintro e w1 ⟨rfl, hr1, hb1⟩
        have HB1 := Lib.hid hb1
        clear hr1 hb1
        go_wp2
        go_ret2
        rw [HX.out]
        exact ⟨rfl, fun e => absurd e (by simpa using e0), Rdr.below0.trans HB1.out⟩
end Go.Proofs.YtajmhllldocpjaaDoor
