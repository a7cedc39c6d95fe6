/-
  Parts of the proof: YRSplit YRSplitQ YRUnq0 YRKey.
-/
import Derived.Test.YtcljplkkgpjhlaaGreatDoorRCat10
import Derived.Test.YtcljplkkgpjhlaaGreatDoorRCat09
import Derived.Test.YtcljplkkgpjhlaaGreatDoorRCat11
import Derived.BigQuiet
set_option maxRecDepth 100000
set_option maxHeartbeats 8000000
namespace Go.Proofs.YtcljplkkgpjhlaaGreatDoorR
namespace y
open Go.ChangeShapes Go.WideShapes Go.ChangeAt Go.RowKit
attribute [local go_sem ↓] Go.wp_at_zero Go.wp_at_succ
variable {w : World}
def splitP (l : List UInt8) : Int := match colon l with
  | none => -1
  | some i => (i : Int)
theorem splitP_of {l : List UInt8} {q : Nat} (h : colon l = (colon (l.drop q)).map (· + q)) {c : UInt8} {r : List UInt8} (hd : l.drop q = c :: r) : (c.toNat = 58 ∧ endB r = true → splitP l = q) ∧ (¬ (c.toNat = 58 ∧ endB r = true) → colon l = (colon r).map (· + (q + 1))) := by
  rw [hd, colon] at h
  refine ⟨fun k => ?_, fun k => ?_⟩
  · rw [if_pos k] at h
    unfold splitP
    rw [h]; simp
  · rw [if_neg k] at h
    rw [h]
    cases colon r with
    | none => rfl
    | some i => simp; omega
theorem rsplit_plain (s : ByteArray) (w : World) (hs : s.size ≤ 90000) (hp : 0 < s.size) (h34 : s[0] ≠ 34) : Calls Tryz.prog 58 #[.string s] w fun e w' => e = .returned (.tuple #[.int .i64 (splitP s.data.toList), .int .i64 0]) ∧ Fresh w w' := by
  have hsz : s.data.toList.length = s.size := Array.length_toList
  have HDROP : Hid (∀ (i : Nat) (h : i < s.size), s.data.toList.drop i = s[i] :: s.data.toList.drop (i + 1)) := fun i h => List.drop_eq_getElem_cons (by rw [hsz]; exact h)
  have HDL : Hid (∀ i, (s.data.toList.drop i).length = s.size - i) := fun i => by rw [List.length_drop, hsz]
  have q1 : ((s[0].toNat : Int) == 34) = false := beq_eq_false_iff_ne.2 (fun e => h34 (UInt8.toNat_inj.1 (by simpa using (by omega : s[0].toNat = 34))))
  have q2 : (0 : Int) < (s.size : Int) := by omega
  have q3 : s.size ≠ 0 := by omega
  clear hsz h34
  generalize s.data.toList = l at *
  go_enter Tryz.func58, Tryz.ntmps58
  go_wp2
  go_loopw [7] (fun i wr => ∃ q : Nat, q ≤ s.size ∧ i = .int .i64 (q : Int) ∧ Hid (colon l = (colon (l.drop q)).map (· + q)) ∧ Hid (Fresh w wr)) (fun i _ => s.size - (intOf i).toNat)
  case atStart => exact ⟨0, by omega, rfl, by rw [Hid, List.drop_zero]; cases colon l <;> simp, Fresh.refl _⟩
  case round =>
    obtain ⟨q, hq, rfl, HC, HW⟩ := hrel
    by_cases hlt : q < s.size
    · have HD := Lib.hid (HDROP.out q hlt)
      have hi : (0 : Int) ≤ (q : Int) ∧ (q : Int) < (s.size : Int) := ⟨by omega, by omega⟩
      have hw1 : IntKind.i64.wrap ((q : Int) + 1) = (q : Int) + 1 := IntWalk.i64_in _ (by omega)
      have HS := Lib.hid (splitP_of HC.out HD.out)
      generalize hc : s[q] = c at *
      by_cases c58 : c = 58
      · subst c58
        by_cases hend : q + 1 = s.size
        · have ge : ((q : Int) + 1 == (s.size : Int)) = true := by rw [beq_iff_eq]; omega
          have HR : Hid (splitP l = q) := by
            have e0 : l.drop (q + 1) = [] := List.eq_nil_of_length_eq_zero (by rw [HDL.out]; omega)
            exact HS.out.1 ⟨rfl, by rw [e0]; rfl⟩
          clear HS HD HC
          go_wp2
          go_ret2
          exact ⟨by rw [HR.out]; rfl, HW.out⟩
        have ge : ((q : Int) + 1 == (s.size : Int)) = false := beq_eq_false_iff_ne.2 (by omega)
        have HD1 := Lib.hid (HDROP.out (q + 1) (by omega))
        have hi1 : (0 : Int) ≤ (q : Int) + 1 ∧ (q : Int) + 1 < (s.size : Int) := ⟨by omega, by omega⟩
        have e1 : ((q : Int) + 1).toNat = q + 1 := by omega
        generalize hd : s[q + 1] = d at *
        by_cases d32 : d = 32
        · subst d32
          have HR : Hid (splitP l = q) := HS.out.1 ⟨rfl, by rw [HD1.out]; rfl⟩
          clear HS HD HC HD1
          go_wp2
          go_ret2
          exact ⟨by rw [HR.out]; rfl, HW.out⟩
        · have n32 : ((d.toNat : Int) == 32) = false := beq_eq_false_iff_ne.2 (fun e => d32 (UInt8.toNat_inj.1 (by simpa using (by omega : d.toNat = 32))))
          have HX : Hid (colon l = (colon (l.drop (q + 1))).map (· + (q + 1))) := HS.out.2 (fun k => by
            have k2 := k.2
            rw [HD1.out] at k2
            have := of_decide_eq_true k2
            exact d32 (UInt8.toNat_inj.1 (by simpa using this)))
          clear HS HD HC HD1
          go_wp2
          go_roundw
          case rel => exact ⟨q + 1, by omega, by go_num, HX.out, HW.out⟩
          case measure => simp [intOf]; omega
      · have n58 : ((c.toNat : Int) == 58) = false := beq_eq_false_iff_ne.2 (fun e => c58 (UInt8.toNat_inj.1 (by simpa using (by omega : c.toNat = 58))))
        have HX : Hid (colon l = (colon (l.drop (q + 1))).map (· + (q + 1))) := HS.out.2 (fun k => c58 (UInt8.toNat_inj.1 (by simpa using k.1)))
        clear HS HD HC
        go_wp2
        go_roundw
        case rel => exact ⟨q + 1, by omega, by go_num, HX.out, HW.out⟩
        case measure => simp [intOf]; omega
    · have HR : Hid (splitP l = -1) := by
        have e0 : l.drop q = [] := List.eq_nil_of_length_eq_zero (by rw [HDL.out]; omega)
        have h := HC.out
        rw [e0] at h
        unfold Hid splitP
        rw [h]; rfl
      clear HC
      go_wp2
      go_ret2
      exact ⟨by rw [HR.out]; rfl, HW.out⟩
def splitQ (l : List UInt8) (u : List UInt8 × Nat × Int) : Int × Int := if u.2.2 ≠ 0 then (-1, u.2.2) else match l.drop u.2.1 with
  | [] => (-1, 0)
  | c :: t => if c.toNat = 58 ∧ endB t = true then ((u.2.1 : Int), 0) else (-1, 6)
theorem rsplit_quoted (s : ByteArray) (u : List UInt8 × Nat × Int) (w : World) (hs : s.size ≤ 90000) (hp : 0 < s.size) (h34 : s[0] = 34) (hn : u.2.2 = 0 → u.2.1 ≤ s.size)
    (hU : ∀ W : World, Calls Tryz.prog 61 #[.string s] W fun e w' => e = .returned (.tuple #[.string (tx u.1), .int .i64 (u.2.1 : Int), .int .i64 u.2.2]) ∧ Fresh W w') :
    Calls Tryz.prog 58 #[.string s] w fun e w' => e = .returned (.tuple #[.int .i64 (splitQ s.data.toList u).1, .int .i64 (splitQ s.data.toList u).2]) ∧ Fresh w w' := by
  obtain ⟨t0, n, x⟩ := u
  dsimp only at hn hU
  have HU := Lib.hid hU
  have hsz : s.data.toList.length = s.size := Array.length_toList
  have HDROP : Hid (∀ (i : Nat) (h : i < s.size), s.data.toList.drop i = s[i] :: s.data.toList.drop (i + 1)) := fun i h => List.drop_eq_getElem_cons (by rw [hsz]; exact h)
  have HDL : Hid (∀ i, (s.data.toList.drop i).length = s.size - i) := fun i => by rw [List.length_drop, hsz]
  have q2 : (0 : Int) < (s.size : Int) := by omega
  have q3 : s.size ≠ 0 := by omega
  clear hsz hU
  generalize s.data.toList = l at *
  generalize hR : splitQ l (t0, n, x) = R
  have HR : Hid (R = if x ≠ 0 then (-1, x) else match l.drop n with
    | [] => (-1, 0)
    | c :: t => if c.toNat = 58 ∧ endB t = true then ((n : Int), 0) else (-1, 6)) := hR.symm
  clear hR
  by_cases hx : x = 0
  · subst hx
    have hnl := hn rfl
    have hw1 : IntKind.i64.wrap ((n : Int) + 1) = (n : Int) + 1 := IntWalk.i64_in _ (by omega)
    clear hn
    by_cases hend : n = s.size
    · subst hend
      have HX : Hid (R = (-1, 0)) := by
        have e0 : l.drop s.size = [] := List.eq_nil_of_length_eq_zero (by rw [HDL.out]; omega)
        rw [Hid, HR.out, if_neg (by simp), e0]
      clear HR
      go_enter Tryz.func58, Tryz.ntmps58
      go_wp2_with (go_at_call 61; refine (HU.out _).mono ?_; rintro e w1 ⟨rfl, hf⟩; have HF := Lib.hid hf; clear hf)
      go_ret2
      exact ⟨by rw [HX.out]; rfl, HF.out⟩
    have hlt : n < s.size := by omega
    have ge : ((n : Int) == (s.size : Int)) = false := beq_eq_false_iff_ne.2 (by omega)
    have hi : (0 : Int) ≤ (n : Int) ∧ (n : Int) < (s.size : Int) := ⟨by omega, by omega⟩
    have HD := Lib.hid (HDROP.out n hlt)
    generalize hc : s[n] = c at *
    by_cases c58 : c = 58
    · subst c58
      by_cases hend2 : n + 1 = s.size
      · have g1 : decide ((n : Int) + 1 < (s.size : Int)) = false := decide_eq_false (by omega)
        have HX : Hid (R = ((n : Int), 0)) := by
          have e0 : l.drop (n + 1) = [] := List.eq_nil_of_length_eq_zero (by rw [HDL.out]; omega)
          rw [Hid, HR.out, if_neg (by simp), HD.out, e0]
          rfl
        clear HR HD
        go_enter Tryz.func58, Tryz.ntmps58
        go_wp2_with (go_at_call 61; refine (HU.out _).mono ?_; rintro e w1 ⟨rfl, hf⟩; have HF := Lib.hid hf; clear hf)
        go_ret2
        exact ⟨by rw [HX.out]; rfl, HF.out⟩
      have g1 : (n : Int) + 1 < (s.size : Int) := by omega
      have HD1 := Lib.hid (HDROP.out (n + 1) (by omega))
      have hi1 : (0 : Int) ≤ (n : Int) + 1 ∧ (n : Int) + 1 < (s.size : Int) := ⟨by omega, by omega⟩
      have e1 : ((n : Int) + 1).toNat = n + 1 := by omega
      generalize hd : s[n + 1] = d at *
      by_cases d32 : d = 32
      · subst d32
        have HX : Hid (R = ((n : Int), 0)) := by
          rw [Hid, HR.out, if_neg (by simp), HD.out, HD1.out]
          rfl
        clear HR HD HD1
        go_enter Tryz.func58, Tryz.ntmps58
        go_wp2_with (go_at_call 61; refine (HU.out _).mono ?_; rintro e w1 ⟨rfl, hf⟩; have HF := Lib.hid hf; clear hf)
        go_ret2
        exact ⟨by rw [HX.out]; rfl, HF.out⟩
      · have n32 : ((d.toNat : Int) != 32) = true := by
          simp; intro e; exact d32 (UInt8.toNat_inj.1 (by simpa using (by omega : d.toNat = 32)))
        have HX : Hid (R = (-1, 6)) := by
          rw [Hid, HR.out, if_neg (by simp), HD.out, HD1.out]
          dsimp only
          rw [if_neg]
          intro k
          have := of_decide_eq_true k.2
          exact d32 (UInt8.toNat_inj.1 (by simpa using this))
        clear HR HD HD1
        go_enter Tryz.func58, Tryz.ntmps58
        go_wp2_with (go_at_call 61; refine (HU.out _).mono ?_; rintro e w1 ⟨rfl, hf⟩; have HF := Lib.hid hf; clear hf)
        go_ret2
        exact ⟨by rw [HX.out]; rfl, HF.out⟩
    · have n58 : ((c.toNat : Int) != 58) = true := by
        simp; intro e; exact c58 (UInt8.toNat_inj.1 (by simpa using (by omega : c.toNat = 58)))
      have HX : Hid (R = (-1, 6)) := by
        rw [Hid, HR.out, if_neg (by simp), HD.out]
        dsimp only
        rw [if_neg]
        intro k
        exact c58 (UInt8.toNat_inj.1 (by simpa using k.1))
      clear HR HD
      go_enter Tryz.func58, Tryz.ntmps58
      go_wp2_with (go_at_call 61; refine (HU.out _).mono ?_; rintro e w1 ⟨rfl, hf⟩; have HF := Lib.hid hf; clear hf)
      go_ret2
      exact ⟨by rw [HX.out]; rfl, HF.out⟩
  · have HX : Hid (R = (-1, x)) := by rw [Hid, HR.out, if_pos hx]
    have gx : (x != 0) = true := by simpa using hx
    clear HR hn
    go_enter Tryz.func58, Tryz.ntmps58
    go_wp2_with (go_at_call 61; refine (HU.out _).mono ?_; rintro e w1 ⟨rfl, hf⟩; have HF := Lib.hid hf; clear hf)
    go_ret2
    exact ⟨by rw [HX.out]; rfl, HF.out⟩
theorem runq_nil (w : World) : Calls Tryz.prog 61 #[.string (tx [])] w fun e w' => e = .returned (.tuple #[.string (tx []), .int .i64 0, .int .i64 6]) ∧ Fresh w w' := by
  have hz : (tx []).size = 0 := rfl
  have ht : tx [] = (⟨#[]⟩ : ByteArray) := rfl
  rw [ht] at hz ⊢
  go_enter Tryz.func61, Tryz.ntmps61
  go_wp2
  go_ret3
  exact ⟨rfl, Fresh.refl w⟩
theorem runq_not (s : ByteArray) (w : World) (hp : 0 < s.size) (h34 : s[0] ≠ 34) : Calls Tryz.prog 61 #[.string s] w fun e w' => e = .returned (.tuple #[.string (tx []), .int .i64 0, .int .i64 6]) ∧ Fresh w w' := by
  have q1 : ((s.size : Int) == 0) = false := beq_eq_false_iff_ne.2 (by omega)
  have q2 : (0 : Int) < (s.size : Int) := by omega
  have q3 : s.size ≠ 0 := by omega
  have q4 : ((s[0].toNat : Int) != 34) = true := by
    simp; intro e; exact h34 (UInt8.toNat_inj.1 (by simpa using (by omega : s[0].toNat = 34)))
  clear h34
  go_enter Tryz.func61, Tryz.ntmps61
  go_wp2
  go_ret3
  exact ⟨rfl, Fresh.refl w⟩
def splitM (l : List UInt8) : Int × Int := if l.head? = some 34 then splitQ l (unqF l) else (splitP l, 0)
theorem rsplit_any (l : List UInt8) (w : World) (hl : l.length ≤ 90000) (hne : l ≠ [])
    (hU : ∀ W : World, Calls Tryz.prog 61 #[.string (tx l)] W fun e w' => e = .returned (.tuple #[.string (tx (unqF l).1), .int .i64 ((unqF l).2.1 : Int), .int .i64 (unqF l).2.2]) ∧ Fresh W w') :
    Calls Tryz.prog 58 #[.string (tx l)] w fun e w' => e = .returned (.tuple #[.int .i64 (splitM l).1, .int .i64 (splitM l).2]) ∧ Fresh w w' := by
  have hp : 0 < (tx l).size := by rw [tx_size]; exact List.length_pos_iff.2 hne
  have hs : (tx l).size ≤ 90000 := by rw [tx_size]; exact hl
  have ht := tx_toList l
  obtain ⟨c, r, rfl⟩ : ∃ c r, l = c :: r := by cases l with | nil => exact absurd rfl hne | cons c r => exact ⟨c, r, rfl⟩
  have h0 : (tx (c :: r))[0] = c := (bs_cons c r).get
  unfold splitM
  by_cases hq : c = 34
  · subst hq
    rw [if_pos (show (34 :: r).head? = some 34 from rfl)]
    have k := rsplit_quoted (tx (34 :: r)) (unqF (34 :: r)) w hs hp h0 (fun _ => by rw [tx_size]; exact unq_le r) hU
    rw [ht] at k
    exact k
  · rw [if_neg (by simpa using hq)]
    have k := rsplit_plain (tx (c :: r)) w hs hp (by rw [h0]; exact hq)
    rw [ht] at k
    exact k
theorem splitM_code (l : List UInt8) : (splitM l).2 = (entM l).1 := by
  unfold splitM entM
  by_cases h : l.head? = some 34
  · rw [if_pos h, if_pos h]
    unfold splitQ
    by_cases hx : (unqF l).2.2 ≠ 0
    · rw [if_pos hx, if_pos hx]
    · rw [if_neg hx, if_neg hx]
      unfold restE
      cases l.drop (unqF l).2.1 with
      | nil => rfl
      | cons c t =>
        dsimp only
        by_cases k : c.toNat = 58 ∧ endB t = true
        · rw [if_pos k, if_pos k]
        · rw [if_neg k, if_neg k]
  · rw [if_neg h, if_neg h]
    cases colon l <;> rfl
theorem alB_iff (c : UInt8) : alB c = decide ((48 ≤ c.toNat ∧ c.toNat ≤ 57) ∨ (65 ≤ c.toNat ∧ c.toNat ≤ 90) ∨ (97 ≤ c.toNat ∧ c.toNat ≤ 122)) := by
  simp [alB, digB, letB]
theorem alnum_any (c : UInt8) (w : World) : Calls Tryz.prog 35 #[.int .u8 (c.toNat : Int)] w fun e w' => e = .returned (.bool (alB c)) ∧ w = w' := by
  have hc : (c.toNat < 48) ∨ (48 ≤ c.toNat ∧ c.toNat ≤ 57) ∨ (58 ≤ c.toNat ∧ c.toNat < 65) ∨ (65 ≤ c.toNat ∧ c.toNat ≤ 90) ∨ (91 ≤ c.toNat ∧ c.toNat < 97) ∨ (97 ≤ c.toNat ∧ c.toNat ≤ 122) ∨ (123 ≤ c.toNat) := by omega
  rcases hc with h | h | h | h | h | h | h
  · have H : Hid (alB c = false) := by rw [Hid, alB_iff]; exact decide_eq_false (by omega)
    have a0 : ¬ (48 : Int) ≤ (c.toNat : Int) := by omega
    have a2 : ¬ (65 : Int) ≤ (c.toNat : Int) := by omega
    have a4 : ¬ (97 : Int) ≤ (c.toNat : Int) := by omega
    clear h
    go_enter Tryz.func35, Tryz.ntmps35
    go_wp2
    go_ret
    exact ⟨by rw [H.out]; rfl, rfl⟩
  · have H : Hid (alB c = true) := by rw [Hid, alB_iff]; exact decide_eq_true (by omega)
    have a0 : (48 : Int) ≤ (c.toNat : Int) := by omega
    have a1 : (c.toNat : Int) ≤ 57 := by omega
    clear h
    go_enter Tryz.func35, Tryz.ntmps35
    go_wp2
    go_ret
    exact ⟨by rw [H.out]; rfl, rfl⟩
  · have H : Hid (alB c = false) := by rw [Hid, alB_iff]; exact decide_eq_false (by omega)
    have a0 : (48 : Int) ≤ (c.toNat : Int) := by omega
    have a1 : ¬ (c.toNat : Int) ≤ 57 := by omega
    have a2 : ¬ (65 : Int) ≤ (c.toNat : Int) := by omega
    have a4 : ¬ (97 : Int) ≤ (c.toNat : Int) := by omega
    clear h
    go_enter Tryz.func35, Tryz.ntmps35
    go_wp2
    go_ret
    exact ⟨by rw [H.out]; rfl, rfl⟩
  · have H : Hid (alB c = true) := by rw [Hid, alB_iff]; exact decide_eq_true (by omega)
    have a0 : (48 : Int) ≤ (c.toNat : Int) := by omega
    have a1 : ¬ (c.toNat : Int) ≤ 57 := by omega
    have a2 : (65 : Int) ≤ (c.toNat : Int) := by omega
    have a3 : (c.toNat : Int) ≤ 90 := by omega
    clear h
    go_enter Tryz.func35, Tryz.ntmps35
    go_wp2
    go_ret
    exact ⟨by rw [H.out]; rfl, rfl⟩
  · have H : Hid (alB c = false) := by rw [Hid, alB_iff]; exact decide_eq_false (by omega)
    have a0 : (48 : Int) ≤ (c.toNat : Int) := by omega
    have a1 : ¬ (c.toNat : Int) ≤ 57 := by omega
    have a2 : (65 : Int) ≤ (c.toNat : Int) := by omega
    have a3 : ¬ (c.toNat : Int) ≤ 90 := by omega
    have a4 : ¬ (97 : Int) ≤ (c.toNat : Int) := by omega
    clear h
    go_enter Tryz.func35, Tryz.ntmps35
    go_wp2
    go_ret
    exact ⟨by rw [H.out]; rfl, rfl⟩
  · have H : Hid (alB c = true) := by rw [Hid, alB_iff]; exact decide_eq_true (by omega)
    have a0 : (48 : Int) ≤ (c.toNat : Int) := by omega
    have a1 : ¬ (c.toNat : Int) ≤ 57 := by omega
    have a2 : (65 : Int) ≤ (c.toNat : Int) := by omega
    have a3 : ¬ (c.toNat : Int) ≤ 90 := by omega
    have a4 : (97 : Int) ≤ (c.toNat : Int) := by omega
    have a5 : (c.toNat : Int) ≤ 122 := by omega
    clear h
    go_enter Tryz.func35, Tryz.ntmps35
    go_wp2
    go_ret
    exact ⟨by rw [H.out]; rfl, rfl⟩
  · have H : Hid (alB c = false) := by rw [Hid, alB_iff]; exact decide_eq_false (by omega)
    have a0 : (48 : Int) ≤ (c.toNat : Int) := by omega
    have a1 : ¬ (c.toNat : Int) ≤ 57 := by omega
    have a2 : (65 : Int) ≤ (c.toNat : Int) := by omega
    have a3 : ¬ (c.toNat : Int) ≤ 90 := by omega
    have a4 : (97 : Int) ≤ (c.toNat : Int) := by omega
    have a5 : ¬ (c.toNat : Int) ≤ 122 := by omega
    clear h
    go_enter Tryz.func35, Tryz.ntmps35
    go_wp2
    go_ret
    exact ⟨by rw [H.out]; rfl, rfl⟩
theorem contains_take (o : List UInt8) (c : UInt8) (q : Nat) (h : q < o.length) : (o.take (q + 1)).contains c = ((o.take q).contains c || decide (c = o[q])) := by
  rw [List.take_succ_eq_append_getElem h, List.contains_append]
  simp
theorem eq_toNat (a b : UInt8) : decide (a = b) = ((a.toNat : Int) == (b.toNat : Int)) := by
  by_cases h : a = b
  · subst h; simp
  · have : a.toNat ≠ b.toNat := fun e => h (UInt8.toNat_inj.1 e)
    simp [h]; omega
theorem made_any (s os : ByteArray) (w : World) (hs : s.size ≤ 1000000) (ho : os.size ≤ 1000000) : Calls Tryz.prog 34 #[.string s, .string os] w fun e w' => e = .returned (.bool (onlyB os.data.toList s.data.toList && decide (0 < s.size))) ∧ Fresh w w' := by
  have HL := Lib.hid (fun c W => alnum_any c W)
  have hsz : s.data.toList.length = s.size := Array.length_toList
  have hosz : os.data.toList.length = os.size := Array.length_toList
  have HSZ := Lib.hid hsz
  have HOZ := Lib.hid hosz
  clear hsz hosz
  go_enter Tryz.func34, Tryz.ntmps34
  go_wp2
  go_loopw [5] (fun i wr => ∃ k : Nat, k ≤ s.size ∧ i = .int .i64 k ∧ Hid (onlyB os.data.toList s.data.toList = onlyB os.data.toList (s.data.toList.drop k)) ∧ Hid (Fresh w wr)) (fun i _ => s.size - (intOf i).toNat)
  case atStart => exact ⟨0, Nat.zero_le _, rfl, rfl, Fresh.refl _⟩
  case round =>
    obtain ⟨k, hk, rfl, HK, HF⟩ := hrel
    by_cases hlt : k < s.size
    · have HS : Hid (onlyB os.data.toList (s.data.toList.drop k) = ((alB s[k] || os.data.toList.contains s[k]) && onlyB os.data.toList (s.data.toList.drop (k + 1)))) := only_step os.data.toList s.data.toList k (by rw [HSZ.out]; exact hlt)
      go_wp2_with (first | (go_at_call 35; refine (HL.out _ _).mono ?_; rintro e w' ⟨rfl, rfl⟩))
      go_loopw [6, 7] (fun b j wq => ∃ q : Nat, q ≤ os.size ∧ j = .int .i64 q ∧ b = .bool (alB s[k] || (os.data.toList.take q).contains s[k]) ∧ Hid (Fresh w wq)) (fun _ j _ => os.size - (intOf j).toNat)
      case atStart => exact ⟨0, Nat.zero_le _, rfl, by simp, HF⟩
      case round =>
        obtain ⟨q, hq, rfl, rfl, HG⟩ := hrel
        by_cases hqt : q < os.size
        · have HT : Hid ((os.data.toList.take (q + 1)).contains s[k] = ((os.data.toList.take q).contains s[k] || decide (s[k] = os[q]))) := contains_take os.data.toList s[k] q (by rw [HOZ.out]; exact hqt)
          have HV : Hid ((alB s[k] || (os.data.toList.take (q + 1)).contains s[k]) = ((alB s[k] || (os.data.toList.take q).contains s[k]) || ((s[k].toNat : Int) == (os[q].toNat : Int)))) := by rw [Hid, HT.out, eq_toNat, Bool.or_assoc]
          clear HT
          cases hb : (alB s[k] || (os.data.toList.take q).contains s[k])
          · have HW : Hid ((alB s[k] || (os.data.toList.take (q + 1)).contains s[k]) = ((s[k].toNat : Int) == (os[q].toNat : Int))) := by rw [Hid, HV.out, hb, Bool.false_or]
            have hi : (0 : Int) ≤ (k : Int) ∧ (k : Int) < (s.size : Int) := ⟨by omega, by omega⟩
            have hj : (0 : Int) ≤ (q : Int) ∧ (q : Int) < (os.size : Int) := ⟨by omega, by omega⟩
            clear HV hb
            go_wp2_with fail
            go_quiet (fail)
            go_wp2
            go_roundw
            case rel => exact ⟨q + 1, by omega, by go_num, by rw [HW.out], v.Fresh.drewN HG.out nq⟩
            case measure => simp [intOf]; omega
          · have HW : Hid ((alB s[k] || (os.data.toList.take (q + 1)).contains s[k]) = true) := by rw [Hid, HV.out, hb, Bool.true_or]
            clear HV hb
            go_wp2_with fail
            go_quiet (fail)
            go_wp2
            go_roundw
            case rel => exact ⟨q + 1, by omega, by go_num, by rw [HW.out], v.Fresh.drewN HG.out nq⟩
            case measure => simp [intOf]; omega
        · obtain rfl : q = os.size := by omega
          have HE : Hid ((os.data.toList.take os.size).contains s[k] = os.data.toList.contains s[k]) := by rw [Hid, List.take_of_length_le (by rw [HOZ.out]; exact Nat.le_refl _)]
          rw [HE.out]
          cases hb : (alB s[k] || os.data.toList.contains s[k])
          · have HR : Hid (onlyB os.data.toList s.data.toList = false) := by rw [Hid, HK.out, HS.out, hb]; simp
            clear HS HK HE hb
            go_wp2
            go_ret
            exact ⟨by rw [HR.out]; rfl, HG.out⟩
          · have HR : Hid (onlyB os.data.toList s.data.toList = onlyB os.data.toList (s.data.toList.drop (k + 1))) := by rw [Hid, HK.out, HS.out, hb]; simp
            clear HS HK HE hb
            go_wp2
            go_roundw
            case rel => exact ⟨k + 1, by omega, by go_num, HR, HG⟩
            case measure => simp [intOf]; omega
    · have HR : Hid (onlyB os.data.toList s.data.toList = true) := by rw [Hid, HK.out, List.drop_of_length_le (by rw [HSZ.out]; omega)]; rfl
      clear HK
      go_wp2
      go_ret
      exact ⟨by rw [HR.out]; simp, HF.out⟩
end y
end Go.Proofs.YtcljplkkgpjhlaaGreatDoorR
