/-
  bosunlaw13.DnsParts, walked where its first text is a name.
-/
import Derived.Test.YtojagplpecjanaaDLaw
namespace Go.Proofs.Ytojagplpecjanaa
open Go.ChangeShapes Go.WideShapes Go.ChangeAt Go.RowKit

/-- What is known of the parts of a name. -/
structure Pts (la : List UInt8) (ps : List (List UInt8)) : Prop where
  pos : 0 < ps.length
  le : ps.length ≤ 500
  lab : ∀ p ∈ ps, labB p = true
  join : joinF ps = la
  one : decide (ps.length = 1) = labB la
  len : ∀ p ∈ ps, p.length ≤ 400
theorem pts_of (la : List UInt8) (h : nameB la = true) (hl : la.length ≤ 400) : Pts la (lnsA [] la) where
  pos := by
    have := lnsA_ne [] la
    exact List.length_pos_iff.2 this
  le := by have := lnsA_len [] la; omega
  lab p hp := by
    unfold nameB at h
    simp only [Bool.and_eq_true] at h
    exact List.all_eq_true.1 h.2 p hp
  join := by rw [join_lns]; simp
  one := one_label h
  len p hp := by have := lnsA_mem la [] p hp; simp at this; omega
/-- The row of the parts, in the world where the loop goes. -/
theorem row_form {w w' : World} {ps : List (List UInt8)} {v : Value} (h : SBuf w' w.heap.size v ps) (hp : 0 < ps.length) : ∃ g cap, v = .slice (some ⟨g, 0, none⟩) ps.length cap := by
  rcases h.2 with ⟨_, h0⟩ | ⟨g, cap, cur, h1, _⟩
  · omega
  · exact ⟨g, cap, h1⟩

set_option maxRecDepth 100000 in
set_option maxHeartbeats 2000000 in
theorem walk_yes (la lb : List UInt8) (ha : la.length ≤ 400) (hb : lb.length ≤ 400) (w : World) (hn : nameB la = true) :
    Calls Try.prog 3 #[.string (tx la), .string (tx lb)] w fun e w' => e = .returned (.bool true) ∧ Fresh w w' := by
  have HT := Lib.hid (tail_of la lb ha hb)
  have HPT := Lib.hid (pts_of la hn ha)
  have HA := Lib.hid (fun W => awake_any W)
  have HPA := Lib.hid (fun W => parts_any la W hn)
  have HNA : Hid (∀ W, Calls Try.prog 5 #[.string (tx la)] W fun e w' => e = .returned (.bool true) ∧ Fresh W w') := by rw [Hid, ← hn]; exact HT.out.a
  have HLA : Hid (∀ W, Calls Try.prog 7 #[.string (tx la)] W fun e w' => e = .returned (.bool (decide ((lnsA [] la).length = 1))) ∧ W = w') := fun W => by
    rw [HPT.out.one]
    exact label_tx la W (by unfold maxLen; omega)
  have q0 := HT.out.e
  have s1 : (tx la).size ≤ 400 := by rw [tx_size]; exact ha
  have s2 : (tx lb).size ≤ 400 := by rw [tx_size]; exact hb
  have s3 : (tx (la ++ 46 :: lb)).size = (tx la).size + 1 + (tx lb).size := by simp [tx_size]; omega
  have HC : Hid ((tx la).size + 1 + (tx lb).size ≤ 253 → ∀ W, Calls Try.prog 5 #[.string (tx (la ++ 46 :: lb))] W fun e w' => e = .returned (.bool (nameB lb)) ∧ Fresh W w') := fun h W => by
    have := HT.out.c W
    rw [HT.out.n (by rw [tx_size, tx_size] at h; exact h), hn] at this
    exact this
  have HNB := Lib.hid HT.out.b
  have HLEN := Lib.hid ha
  clear HT hn ha hb
  generalize lnsA [] la = ps at *
  have HLB : Hid (∀ (k : Nat) (h : k < ps.length) W, Calls Try.prog 7 #[.string (tx ps[k])] W fun e w' => e = .returned (.bool true) ∧ W = w') := fun k h W => by
    have := label_tx ps[k] W (by have := HPT.out.len ps[k] (List.getElem_mem h); unfold maxLen; omega)
    rw [HPT.out.lab ps[k] (List.getElem_mem h)] at this
    exact this
  have HJ0 : Hid (tx la = tx (joinF (ps.take ps.length))) := by rw [Hid, List.take_length, HPT.out.join]
  have HJS : Hid (∀ (k : Nat) (h : k < ps.length), (k = 0 → (⟨#[]⟩ : ByteArray) ++ tx ps[k] = tx (joinF (ps.take (k + 1))) ∧ tx (joinF (ps.take k)) = ⟨#[]⟩) ∧ (k ≠ 0 → tx (joinF (ps.take k)) ++ ⟨#[46]⟩ ++ tx ps[k] = tx (joinF (ps.take (k + 1))))) := fun k h => by
    refine ⟨fun h0 => ?_, fun h0 => ?_⟩
    · subst h0
      rw [join_step ps 0 h, if_pos rfl]
      exact ⟨by show tx [] ++ _ = _; rw [tx_app]; rfl, by simp [joinF]; rfl⟩
    · rw [join_step ps k h, if_neg h0, tx_point, tx_app, tx_app]; simp
  have HSZ : Hid (∀ k, (tx (joinF (ps.take k))).size ≤ 400) := fun k => by
    rw [tx_size]
    have := join_take_len ps k
    rw [HPT.out.join] at this
    have := HLEN.out
    omega
  have HPS : Hid (∀ (k : Nat) (h : k < ps.length), (tx ps[k]).size ≤ 400) := fun k h => by rw [tx_size]; exact HPT.out.len _ (List.getElem_mem h)
  have hpos := HPT.out.pos
  have hle := HPT.out.le
  have HPR := Lib.hid (fun (W W' : World) (v : Value) (h : SBuf W' W.heap.size v ps) => row_form h hpos)
  clear HPT HLEN
  generalize tx (la ++ 46 :: lb) = C at *
  generalize tx la = A at *
  generalize tx lb = B at *
  generalize nameB lb = nb at *
  go_enter Try.func3, Try.ntmps3
  go_wp2_with (fail)
  refine (HNA.out _).mono ?_
  rintro e w1 ⟨rfl, hf1⟩
  have HF1 := Lib.hid hf1
  clear hf1
  go_wp2_with (fail)
  refine (HPA.out _).mono ?_
  rintro e w2 ⟨v, rfl, hrow, hf2⟩
  obtain ⟨g, cap, rfl⟩ := HPR.out _ _ _ hrow
  have HF2 := Lib.hid (HF1.out.trans hf2)
  have HROW := Lib.hid hrow
  clear hrow hf2 HPR
  go_wp2
  go_loopw [6, 25] (fun a6 a25 wr => ∃ (k : Nat), a25 = .int .i64 (k : Int) ∧ k ≤ ps.length ∧ a6 = .string (tx (joinF (ps.take k))) ∧ w2 = wr) (fun _ a25 _ => ps.length - (intOf a25).toNat)
  case atStart => exact ⟨0, rfl, Nat.zero_le _, rfl, rfl⟩
  case round =>
    obtain ⟨k, rfl, hk, rfl, rfl⟩ := hrel
    by_cases hlt : k < ps.length
    · have HLK := Lib.hid (fun W => HLB.out k hlt W)
      have hcell := SBuf.cell HROW.out k hlt
      obtain ⟨hj0, hj1⟩ := HJS.out k hlt
      have hz1 := HSZ.out k
      have hz2 := HPS.out k hlt
      generalize tx ps[k] = P at *
      by_cases h0 : k = 0
      · obtain ⟨hj2, hj3⟩ := hj0 h0
        rw [hj3] at hz1 ⊢
        clear hj0 hj1
        subst h0
        obtain ⟨R, hR⟩ : ∃ R, R = tx (joinF (ps.take (0 + 1))) := ⟨_, rfl⟩
        rw [← hR] at hj2
        have HRR := Lib.hid hR
        clear hR
        go_wp2_with (go_at_call 7; refine (HLK.out _).mono ?_; rintro e w' ⟨rfl, rfl⟩)
        go_roundw
        case rel => exact ⟨1, by simp, hlt, congrArg Value.string HRR.out, by trivial⟩
        case measure => simp [intOf]; omega
      · have hj2 := hj1 h0
        clear hj0 hj1
        obtain ⟨R, hR⟩ : ∃ R, R = tx (joinF (ps.take (k + 1))) := ⟨_, rfl⟩
        rw [← hR] at hj2
        have HRR := Lib.hid hR
        clear hR
        generalize tx (joinF (ps.take k)) = T at *
        have hk0 : 0 < k := by omega
        go_wp2_with (go_at_call 7; refine (HLK.out _).mono ?_; rintro e w' ⟨rfl, rfl⟩)
        all_goals try (exfalso; omega)
        go_roundw
        case rel => exact ⟨k + 1, by simp, by omega, congrArg Value.string HRR.out, by trivial⟩
        case measure => simp [intOf]; omega
    · obtain rfl : k = ps.length := by omega
      rw [← HJ0.out]
      clear HJ0 HJS HSZ HPS HLB HROW
      have HLD : Hid (decide (ps.length = 1) = ((ps.length : Int) == 1)) := by
        rw [Hid, Bool.eq_iff_iff]
        simp only [decide_eq_true_eq, beq_iff_eq]
        omega
      rw [HLD.out] at HLA
      clear HLD
      by_cases hbig : A.size + 1 + B.size ≤ 253
      · have HCC := Lib.hid (HC.out hbig)
        go_wp2_with (fail)
        all_goals try (exfalso; omega)
        refine (HLA.out _).mono ?_
        rintro e w' ⟨rfl, rfl⟩
        go_wp2_with (fail)
        refine (HA.out _).mono ?_
        rintro e w3 ⟨rfl, hf3⟩
        have HF3 := Lib.hid (HF2.out.trans hf3)
        clear hf3
        go_wp2_with (fail)
        refine (HCC.out _).mono ?_
        rintro e w4 ⟨rfl, hf4⟩
        have HF4 := Lib.hid (HF3.out.trans hf4)
        clear hf4
        go_wp2_with (fail)
        refine (HNA.out _).mono ?_
        rintro e w5 ⟨rfl, hf5⟩
        have HF5 := Lib.hid (HF4.out.trans hf5)
        clear hf5
        go_wp2_with (fail)
        refine (HNB.out _).mono ?_
        rintro e w6 ⟨rfl, hf6⟩
        have HF6 := Lib.hid (HF5.out.trans hf6)
        clear hf6
        go_wp2
        go_ret
        exact ⟨ret_bool (by simp), HF6.out⟩
      · clear HC
        go_wp2_with (fail)
        all_goals try (exfalso; omega)
        refine (HLA.out _).mono ?_
        rintro e w' ⟨rfl, rfl⟩
        go_wp2_with (fail)
        refine (HA.out _).mono ?_
        rintro e w3 ⟨rfl, hf3⟩
        have HF3 := Lib.hid (HF2.out.trans hf3)
        clear hf3
        go_wp2
        go_ret
        exact ⟨rfl, HF3.out⟩
/-- The law, for every two texts. -/
theorem walk (a b : ByteArray) (ha : a.size ≤ maxLen) (hb : b.size ≤ maxLen) (w : World) :
    Calls Try.prog 3 #[.string a, .string b] w fun e w' => e = .returned (.bool true) ∧ Fresh w w' := by
  by_cases h : 400 < a.size ∨ 400 < b.size
  · exact walk_big a b ha hb w h
  · have e1 := tx_of a
    have e2 := tx_of b
    have l1 : a.data.toList.length ≤ 400 := by simp; omega
    have l2 : b.data.toList.length ≤ 400 := by simp; omega
    rw [← e1, ← e2]
    cases hn : nameB a.data.toList with
    | true => exact walk_yes _ _ l1 l2 w hn
    | false => exact walk_no _ _ l1 l2 w hn
end Go.Proofs.Ytojagplpecjanaa
