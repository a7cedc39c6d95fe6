/-
  Package ylines: a line's rows.
-/
import Derived.Test.YtmenbgdkokegaaaDoorSmall
import Derived.Test.YtmenbgdkokegaaaDoorClone
namespace Go.Proofs.YtmenbgdkokegaaaDoor
open Go.ChangeShapes Go.WideShapes Go.ChangeAt Go.RowKit
attribute [local go_sem ↓] Go.wp_at_zero Go.wp_at_succ
variable {w : World}

/-- Rows put behind others: what was there lies as it lay, but for the row's own block. -/
def Adds (w : World) (B : Nat) (v : Value) (l : List Rw) (v' : Value) (w' : World) : Prop :=
  RBuf 32 w' B v' l ∧ w.grownBy w' v.ownBlock ∧ ∀ g, v'.ownBlock = some g → v.ownBlock = some g ∨ w.heap.size ≤ g
theorem grownBy_trans {a b c : World} {r r' : Option Nat} (h : a.grownBy b r) (k : b.grownBy c r') (hr : ∀ g, r' = some g → r = some g ∨ a.heap.size ≤ g) : a.grownBy c r :=
  ⟨k.os.trans h.os, k.tape.trans h.tape, k.output.trans h.output, Nat.le_trans h.size k.size, fun j hj hne => by
    rw [k.block j (Nat.lt_of_lt_of_le hj h.size) (fun e => by
      rcases hr j e.symm with h1 | h1
      · exact hne h1.symm
      · omega), h.block j hj hne]⟩
theorem Fresh.grownBy {w w' : World} (hf : Fresh w w') (row : Option Nat) : w.grownBy w' row := ⟨hf.os, hf.tape, hf.output, hf.size, fun k hk _ => hf.block k hk⟩
theorem Adds.refl {w : World} {B : Nat} {v : Value} {l : List Rw} (h : RBuf 32 w B v l) : Adds w B v l v w :=
  ⟨h, (Fresh.refl w).grownBy _, fun _ h => .inl h⟩
theorem Adds.more {w w1 w2 : World} {B : Nat} {v v1 v2 : Value} {l l2 : List Rw} (h : Adds w B v l v1 w1) (k : Adds w1 B v1 l2 v2 w2) : Adds w B v l2 v2 w2 := by
  have hs := h.2.1.size
  refine ⟨k.1, grownBy_trans h.2.1 k.2.1 h.2.2, fun g hg => ?_⟩
  rcases k.2.2 g hg with h1 | h1
  · exact h.2.2 g h1
  · exact .inr (by omega)
theorem Adds.fresh {w w1 w2 : World} {B : Nat} {v v1 : Value} {l : List Rw} (h : Adds w B v l v1 w1) (k : Fresh w1 w2) : Adds w B v l v1 w2 :=
  ⟨h.1.fresh k, grownBy_trans h.2.1 (k.grownBy none) (fun g e => by cases e), h.2.2⟩
/-- How far the rows of a line are made. -/
def RowsAt (n : Nat) (t : List UInt8) (acc out : List Rw) (a : Nat) : Prop := acc ++ rowsS n 0 t = out ++ rowsS n a (t.drop a)
theorem rowsAt_start (n : Nat) (t : List UInt8) (acc : List Rw) : RowsAt n t acc acc (blanks t) := by
  unfold RowsAt
  rw [rowsS_blanks n t 0, Nat.zero_add]
theorem rowsAt_dash {n : Nat} {t : List UInt8} {acc out : List Rw} {a : Nat} (H : RowsAt n t acc out a) (h : a < t.length) (e : dashB (t.drop a) = true) : RowsAt n t acc (out ++ [⟨n, a, true, []⟩]) (a + 1 + blanks (t.drop (a + 1))) := by
  unfold RowsAt at *
  rw [H, rowsS_dash n a t h e, rowsS_blanks n (t.drop (a + 1)) (a + 1), List.drop_drop]
  simp
theorem rowsAt_end {n : Nat} {t : List UInt8} {acc out : List Rw} {a : Nat} (H : RowsAt n t acc out a) (h : t.length ≤ a) : acc ++ rowsS n 0 t = out := by
  unfold RowsAt at *
  rw [H, rowsS_end n a t h]; simp
theorem rowsAt_text {n : Nat} {t : List UInt8} {acc out : List Rw} {a : Nat} (H : RowsAt n t acc out a) (h : a < t.length) (hc : t[a] ≠ 32) (e : dashB (t.drop a) = false) : acc ++ rowsS n 0 t = out ++ [⟨n, a, false, t.drop a⟩] := by
  unfold RowsAt at *
  rw [H, rowsS_text n a t h hc e]
theorem head_drop {l : List UInt8} {a : Nat} (h : a + blanks (l.drop a) < l.length) : l[a + blanks (l.drop a)] ≠ 32 := by
  have := blanks_head (l.drop a) (by rw [List.length_drop]; omega)
  rw [List.drop_drop, List.getElem?_drop, Nat.add_zero, List.getElem?_eq_getElem h] at this
  exact fun e => this (by rw [e])
set_option maxRecDepth 100000 in
set_option maxHeartbeats 4000000 in
theorem add_any (n : Nat) (s : ByteArray) (acc : List Rw) (B : Nat) (v : Value) (w : World) (hs : s.size ≤ 1000000) (hacc : acc.length ≤ 1000000000000) (hBw : B ≤ w.heap.size) (hb : RBuf 32 w B v acc) :
    Calls Tryd.prog 12 #[v, .int .i64 (n : Int), .string s] w fun e w' => ∃ v', e = .returned v' ∧ Adds w B v (acc ++ rowsS n 0 (Lib.trimRightB s.data.toList 32)) v' w' := by
  obtain ⟨i0, hi, hz0, hz1, hz2⟩ := info_parts info32
  have HTR := Lib.hid (fun W => trimR_any s W hs)
  obtain ⟨t, ht⟩ : ∃ t, t = Lib.trimRightB s.data.toList 32 := ⟨_, rfl⟩
  have htl : t.length ≤ 1000000 := by
    rw [ht]
    unfold Lib.trimRightB
    rw [List.length_reverse]
    have := (List.dropWhile_suffix (l := s.data.toList.reverse) (fun x => x == (32 : UInt8))).length_le
    simp at this
    simp; omega
  rw [← ht] at HTR ⊢
  have HPB := Lib.hid (fun a W ha => past_any t a W ha htl)
  have HDA := Lib.hid (fun a W => isDash_any (t.drop a) W)
  have HEX : Hid (∀ a, (tx t).extract a (tx t).size = tx (t.drop a)) := fun a => by
    rw [tx_extract, tx_toList, tx_size]
    congr 1
    rw [List.take_of_length_le (by simp)]
  have HSZ := Lib.hid (tx_size t)
  have HTL := Lib.hid htl
  have HB := Lib.hid hb
  have hv := hb
  have HBW := Lib.hid hBw
  have HACC := Lib.hid hacc
  have hP0 := Lib.hid (HPB.out 0 · (Nat.zero_le _))
  have hsz1 : (tx t).size ≤ 1000000 := by rw [HSZ.out]; exact htl
  obtain ⟨S, hS⟩ : ∃ S, S = tx t := ⟨_, rfl⟩
  rw [← hS] at HTR HEX HSZ HPB hsz1 hP0
  clear ht htl hb hBw hacc hv hS
  go_enter Tryd.func12, Tryd.ntmps12
  go_wp2_with (first | (go_at_call 20; refine (HTR.out _).mono ?_; rintro e w' ⟨rfl, rfl⟩) | (go_at_call 21; refine (hP0.out _).mono ?_; rintro e w' ⟨rfl, rfl⟩))
  go_loopw [0, 7] (fun a0 a7 wr => ∃ (a : Nat) (out : List Rw) (v1 : Value), a ≤ S.size ∧ v1 = a0 ∧ a7 = .int .i64 a ∧ Hid (RowsAt n t acc out a) ∧ Hid (∀ h : a < t.length, t[a] ≠ 32) ∧ Hid (out.length ≤ acc.length + a) ∧ Hid (Adds w B v out v1 wr)) (fun _ a7 _ => S.size - (intOf a7).toNat)
  case atStart =>
    have h0 := blanks_le t
    have h1 := HSZ.out
    refine ⟨blanks t, acc, v, by omega, rfl, by simp, rowsAt_start n t acc, fun h => ?_, by simp [Hid], Adds.refl HB.out⟩
    have := head_drop (l := t) (a := 0) (by simpa using h)
    simpa using this
  case round =>
    obtain ⟨a, out, v1, ha, rfl, rfl, HR, HH, HLEN, HA⟩ := hrel
    have q0 := HEX.out a
    have HD := Lib.hid (fun W => HDA.out a W)
    have hle : out.length ≤ 1000001000000 := by have h1 := HLEN.out; have h2 := HACC.out; omega
    have HBW1 : Hid (B ≤ wr.heap.size) := Nat.le_trans HBW.out HA.out.2.1.size
    by_cases hlt : a < S.size
    · have HLT : Hid (a < t.length) := by rw [Hid, ← HSZ.out]; exact hlt
      cases hd : dashB (t.drop a) with
      | true =>
        rw [hd] at HD
        have HN := Lib.hid (rowsAt_dash HR.out HLT.out hd)
        have HP := Lib.hid (fun W => HPB.out (a + 1) W HLT.out)
        have hbl := blanks_le (t.drop (a + 1))
        rw [List.length_drop] at hbl
        have HBL : Hid (a + 1 + blanks (t.drop (a + 1)) ≤ S.size) := by rw [Hid, HSZ.out]; have := HLT.out; omega
        have HNH : Hid (∀ h : a + 1 + blanks (t.drop (a + 1)) < t.length, t[a + 1 + blanks (t.drop (a + 1))] ≠ 32) := fun h => head_drop h
        have HCELL := Lib.hid (rnews 32 wr ⟨n, a, true, []⟩)
        clear hd hbl
        generalize tx (t.drop a) = d at *
        obtain ⟨a2, ha2⟩ : ∃ a2, a2 = a + 1 + blanks (t.drop (a + 1)) := ⟨_, rfl⟩
        rw [← ha2] at HN HP HBL
        have HNH2 : Hid (∀ h : a2 < t.length, t[a2] ≠ 32) := by rw [Hid, ha2]; exact HNH.out
        have HA2 : Hid (a < a2) := by rw [Hid, ha2]; omega
        have HP2 : Hid (∀ W, Calls Tryd.prog 21 #[.string S, .int .i64 ((a : Int) + 1)] W fun e w' => e = .returned (.int .i64 (a2 : Int)) ∧ W = w') := HP.out
        have hal : a ≤ 1000000 := by omega
        have ha2l : a2 ≤ 1000000 := by have := HBL.out; omega
        clear HP
        clear HNH ha2
        go_wp2_with (first | (go_at_call 22; refine (HD.out _).mono ?_; rintro e w' ⟨rfl, rfl⟩) | (at_builtin; refine Hid.out ?_))
        refine Lib.hid ?_
        refine wpList_append_lies _ rfl _ _ 23 rfl B 32 i0 (.agg #[.int .i64 0, .int .i64 0, .bool false, .string ⟨#[]⟩]) 4 40 Tryd.underlying23 hi hz0 hz1 hz2 rfl (by decide) v1 out.length (rcells out) rfl (World.ownsRow.alloc HA.out.1 _) ⟨wr.heap.size, 0, none⟩ 1 1 (rcell ⟨n, a, true, []⟩) rfl rfl HCELL.out (rcell_one _) (by decide) (by unfold maxLen; omega) (by omega) (by rw [World.size_alloc]; have := HBW1.out; omega) (wr.heap.size + 1) (by simp) ?_
        intro g cap w2 hown hgrow hat hlt2
        have HT2 := Lib.hid (RBuf.more hown)
        have HG2 := Lib.hid hgrow
        have HAT := Lib.hid hat
        clear hown hgrow hat hlt2
        have HS1 := Lib.hid (World.size_alloc wr (.cells #[.int .i64 (n : Int), .int .i64 (a : Int), .bool true, .string ⟨#[]⟩] 32))
        have HADDS : Hid (Adds wr B v1 (out ++ [⟨n, a, true, []⟩]) (.slice (some ⟨g, 0, none⟩) (out.length + 1) cap) w2) :=
          ⟨HT2.out, grownBy_trans (World.grownBy_alloc wr _ _) HG2.out (fun g e => .inl e), fun g' e => by
            simp only [Value.ownBlock, Option.some.injEq] at e
            subst e
            rcases HAT.out with h | h
            · exact .inl h
            · exact .inr (by omega)⟩
        have HADDS2 := Lib.hid (HA.out.more HADDS.out)
        clear HT2 HG2 HAT HS1 HADDS
        go_wp2_with (go_at_call 21; refine (HP2.out _).mono ?_; rintro e w' ⟨rfl, rfl⟩)
        go_roundw
        case rel => exact ⟨a2, out ++ [Rw.mk n a true []], _, HBL.out, rfl, rfl, HN.out, HNH2.out, by rw [Hid, List.length_append]; have := HLEN.out; have := HA2.out; simp; omega, HADDS2.out⟩
        case measure => simp [intOf]; have := HA2.out; have := HBL.out; omega
      | false =>
        rw [hd] at HD
        have HN := Lib.hid (rowsAt_text HR.out HLT.out (HH.out HLT.out) hd)
        have HCL := Lib.hid (fun W => clone_any (tx (t.drop a)) W (by rw [tx_size, List.length_drop]; have := HTL.out; omega))
        have e0 : ((a : Int) == (S.size : Int)) = false := by rw [beq_eq_false_iff_ne]; omega
        clear hd
        obtain ⟨x, hx⟩ : ∃ x, x = t.drop a := ⟨_, rfl⟩
        rw [← hx] at HD HN HCL q0
        clear hx
        go_wp2_with (go_at_call 22; refine (HD.out _).mono ?_; rintro e w' ⟨rfl, rfl⟩)
        all_goals try (exfalso; omega)
        refine (HCL.out _).mono ?_
        rintro e w1 ⟨rfl, hf⟩
        have HF := Lib.hid hf
        have HA1 := Lib.hid (HA.out.fresh hf)
        have HBW2 : Hid (B ≤ w1.heap.size) := Nat.le_trans HBW.out HA1.out.2.1.size
        have HCELL := Lib.hid (rnews 32 w1 ⟨n, a, false, x⟩)
        clear hf
        go_wp2_with (at_builtin; refine Hid.out ?_)
        refine Lib.hid ?_
        refine wpList_append_lies _ rfl _ _ 23 rfl B 32 i0 (.agg #[.int .i64 0, .int .i64 0, .bool false, .string ⟨#[]⟩]) 4 40 Tryd.underlying23 hi hz0 hz1 hz2 rfl (by decide) v1 out.length (rcells out) rfl (World.ownsRow.alloc HA1.out.1 _) ⟨w1.heap.size, 0, none⟩ 1 1 (rcell ⟨n, a, false, x⟩) rfl rfl HCELL.out (rcell_one _) (by decide) (by unfold maxLen; omega) (by omega) (by rw [World.size_alloc]; have := HBW2.out; omega) (w1.heap.size + 1) (by simp) ?_
        intro g cap w2 hown hgrow hat hlt2
        have HT2 := Lib.hid (RBuf.more hown)
        have HADDS : Hid (Adds w1 B v1 (out ++ [⟨n, a, false, x⟩]) (.slice (some ⟨g, 0, none⟩) (out.length + 1) cap) w2) :=
          ⟨HT2.out, grownBy_trans (World.grownBy_alloc w1 _ _) hgrow (fun g e => .inl e), fun g' e => by
            simp only [Value.ownBlock, Option.some.injEq] at e
            subst e
            rcases hat with h | h
            · exact .inl h
            · exact .inr (by omega)⟩
        have HADDS2 := Lib.hid (HA1.out.more HADDS.out)
        clear hown hgrow hat hlt2 HT2 HADDS
        go_wp2
        go_ret
        exact ⟨_, rfl, by rw [HN.out]; exact HADDS2.out⟩
    · obtain rfl : a = S.size := by omega
      have HN := Lib.hid (rowsAt_end HR.out (by rw [HSZ.out]; exact Nat.le_refl _))
      go_wp2
      all_goals try (exfalso; omega)
      go_ret
      exact ⟨v1, rfl, by rw [HN.out]; exact HA.out⟩
end Go.Proofs.YtmenbgdkokegaaaDoor
