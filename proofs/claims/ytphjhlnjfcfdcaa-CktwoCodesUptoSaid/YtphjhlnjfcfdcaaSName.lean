/-
  The document's cut at points, and its Name.
-/
import Derived.Test.YtphjhlnjfcfdcaaSDns3
import Derived.Maps.AppendAt
import Derived.RangeFuncBox
namespace Go.Proofs.Ytphjhlnjfcfdcaa
open Go.ChangeShapes Go.WideShapes Go.ChangeAt Go.RowKit

theorem srow_shape {w : World} {B : Nat} {v : Value} {l : List (List UInt8)} (h : SBuf w B v l) : ∃ o c, v = .slice o l.length c := by
  rcases h.2 with ⟨h1, h2⟩ | ⟨g, cap, c2, h1, _⟩
  · exact ⟨none, 0, by rw [h1, h2]⟩
  · exact ⟨_, _, h1⟩
/-- How far a text is cut. -/
def CutAt (l : List UInt8) (f i : Nat) (out : List (List UInt8)) : Prop := lnsA [] l = out ++ lnsA ((l.take i).drop f) (l.drop i)
theorem cutAt_start (l : List UInt8) : CutAt l 0 0 [] := by simp [CutAt]
theorem cutAt_next {l : List UInt8} {f i : Nat} {out : List (List UInt8)} (h : CutAt l f i out) (hf : f ≤ i) (hi : i < l.length) (hc : l[i] ≠ 46) : CutAt l f (i + 1) out := by
  unfold CutAt at *
  rw [h, List.drop_eq_getElem_cons hi, lnsA, if_neg hc, List.take_succ_eq_append_getElem hi, List.drop_append_of_le_length (by rw [List.length_take]; omega)]
theorem cutAt_cut {l : List UInt8} {f i : Nat} {out : List (List UInt8)} (h : CutAt l f i out) (hi : i < l.length) (hc : l[i] = 46) : CutAt l (i + 1) (i + 1) (out ++ [(l.take i).drop f]) := by
  unfold CutAt at *
  rw [h, List.drop_eq_getElem_cons hi, lnsA, if_pos hc, List.drop_take_self]
  simp
theorem cutAt_end {l : List UInt8} {f : Nat} {out : List (List UInt8)} (h : CutAt l f l.length out) : lnsA [] l = out ++ [(l.take l.length).drop f] := by
  unfold CutAt at *
  rw [h]; simp [lnsA]
theorem cutAt_len {l : List UInt8} {f i : Nat} {out : List (List UInt8)} (h : CutAt l f i out) : out.length ≤ l.length + 1 := by
  have := lnsA_len [] l
  unfold CutAt at h
  rw [h, List.length_append] at this
  omega
set_option maxRecDepth 100000 in
set_option maxHeartbeats 2000000 in
theorem rcut_any (l : List UInt8) (w : World) (hs : l.length ≤ 4000000) : Calls Try.prog 65 #[.string (tx l)] w fun e w' => ∃ v, e = .returned v ∧ SBuf w' w.heap.size v (lnsA [] l) ∧ Fresh w w' := by
  obtain ⟨i0, hi, hz0, hz1, hz2⟩ := info_parts info9
  have HSZ := Lib.hid (tx_size l)
  have HGET : Hid (∀ (k : Nat) (h : k < (tx l).size) (h' : k < l.length), (tx l)[k]'h = l[k]'h') := fun k h h' => rfl
  have HEX : Hid (∀ f i, (tx l).extract f i = tx ((l.take i).drop f)) := fun f i => by
    rw [tx_extract, tx_toList, List.drop_take]
  have hs2 : (tx l).size ≤ 4000000 := by rw [tx_size]; exact hs
  generalize tx l = S at *
  clear hs
  go_enter Try.func65, Try.ntmps65
  go_wp2
  go_loopw [3, 4, 5] (fun a3 a4 a5 wr => ∃ (f i : Nat) (out : List (List UInt8)) (v : Value), a3 = v ∧ a4 = .int .i64 (f : Int) ∧ a5 = .int .i64 (i : Int) ∧ i ≤ S.size + 1 ∧ Hid (i ≤ S.size → f ≤ i) ∧ Hid (i ≤ S.size → CutAt l f i out) ∧ Hid (¬ i ≤ S.size → lnsA [] l = out) ∧ Hid (SBuf wr w.heap.size v out) ∧ Hid (Fresh w wr)) (fun _ _ a5 _ => S.size + 1 - (intOf a5).toNat)
  case atStart => exact ⟨0, 0, [], _, rfl, rfl, rfl, by omega, fun _ => by omega, fun _ => cutAt_start l, fun h => absurd (Nat.zero_le _) h, World.ownsRow_nil _ _ _ _, Fresh.refl _⟩
  case round =>
    obtain ⟨f, i, out, v, rfl, rfl, rfl, hle, HFI, HC, HE, HB, HF⟩ := hrel
    by_cases hin : i ≤ S.size
    · have hfi := HFI.out hin
      have hol := cutAt_len (HC.out hin)
      have HOL : Hid (out.length ≤ 5000000) := by rw [Hid]; have := HSZ.out; omega
      obtain ⟨o, c, hv⟩ := srow_shape HB.out
      subst hv
      have HSN : Hid (∀ (A : World) (u : Value) (x : List UInt8), A.ownsRow w.heap.size 9 1 u (out.length + 1) (scells out ++ [.string (tx x)]) → SBuf A w.heap.size u (out ++ [x])) := fun A u x h => SBuf.more h
      have HX := Lib.hid (HEX.out f i)
      have hbs := HF.out.size
      clear hol
      by_cases hend : i = S.size
      · subst hend
        have HDONE : Hid (lnsA [] l = out ++ [(l.take S.size).drop f]) := by
          have := HC.out hin
          rw [HSZ.out] at this ⊢
          exact cutAt_end this
        go_wp2_with (at_builtin; refine wpList_append_own _ rfl _ _ 114 rfl w.heap.size 9 i0 (.string ⟨#[]⟩) 1 16 Try.underlying114 hi hz0 hz1 hz2 rfl (by decide) _ _ _ rfl (World.ownsRow.alloc HB.out _) ⟨wr.heap.size, 0, none⟩ 1 1 [.string (S.extract f S.size)] rfl rfl (cell_one_new _ _ _) (by simp [Value.oneCell']) (by have := HOL.out; unfold maxLen; omega) (by have := HOL.out; omega) (by rw [World.size_alloc]; omega) ?_; intro v' w3 hown' hgrow _; obtain ⟨g', cap', rfl⟩ := ownsRow_succ hown'; have HOWN := Lib.hid hown'; have HGROW := Lib.hid hgrow; clear hown' hgrow)
        all_goals try (exfalso; omega)
        go_roundw
        case rel => 
          refine ⟨S.size + 1, S.size + 1, out ++ [(l.take S.size).drop f], _, rfl, by simp, by simp, by omega, fun h => by omega, fun h => by omega, fun _ => HDONE.out, ?_, ?_⟩
          · have := HOWN.out
            rw [HX.out] at this
            exact HSN.out _ _ _ this
          · exact (HF.out.alloc _).grown HGROW.out (fun g e => (HB.out.lt g e).1)
        case measure => simp [intOf]
      · have hlt : i < S.size := by omega
        have HLT : Hid (i < l.length) := by rw [Hid, ← HSZ.out]; exact hlt
        have HGI := Lib.hid (HGET.out i hlt HLT.out)
        have e0 : ((i : Int) == (S.size : Int)) = false := by rw [beq_eq_false_iff_ne]; omega
        by_cases hpt : (S[i].toNat : Int) = 46
        · have HNX : Hid (CutAt l (i + 1) (i + 1) (out ++ [(l.take i).drop f])) := cutAt_cut (HC.out hin) HLT.out (by
            rw [← HGI.out, ← UInt8.toNat_inj]
            show S[i].toNat = 46
            omega)
          go_wp2_with (at_builtin; refine wpList_append_own _ rfl _ _ 114 rfl w.heap.size 9 i0 (.string ⟨#[]⟩) 1 16 Try.underlying114 hi hz0 hz1 hz2 rfl (by decide) _ _ _ rfl (World.ownsRow.alloc HB.out _) ⟨wr.heap.size, 0, none⟩ 1 1 [.string (S.extract f i)] rfl rfl (cell_one_new _ _ _) (by simp [Value.oneCell']) (by have := HOL.out; unfold maxLen; omega) (by have := HOL.out; omega) (by rw [World.size_alloc]; omega) ?_; intro v' w3 hown' hgrow _; obtain ⟨g', cap', rfl⟩ := ownsRow_succ hown'; have HOWN := Lib.hid hown'; have HGROW := Lib.hid hgrow; clear hown' hgrow)
          all_goals try (exfalso; omega)
          go_roundw
          case rel => 
            refine ⟨i + 1, i + 1, out ++ [(l.take i).drop f], _, rfl, by simp, by simp, by omega, fun h => by omega, fun _ => HNX.out, fun h => by omega, ?_, ?_⟩
            · have := HOWN.out
              rw [HX.out] at this
              exact HSN.out _ _ _ this
            · exact (HF.out.alloc _).grown HGROW.out (fun g e => (HB.out.lt g e).1)
          case measure => simp [intOf]; omega
        · have HNX : Hid (CutAt l f (i + 1) out) := cutAt_next (HC.out hin) hfi HLT.out (fun e => hpt (by
            rw [HGI.out, e]; rfl))
          go_wp2
          all_goals try (exfalso; omega)
          go_roundw
          case rel => exact ⟨f, i + 1, out, _, rfl, rfl, by simp, by omega, fun _ => by omega, fun _ => HNX.out, fun h => by omega, HB.out, HF.out⟩
          case measure => simp [intOf]; omega
    · have HE2 := HE.out hin
      obtain ⟨o, c, hv⟩ := srow_shape HB.out
      subst hv
      go_wp2
      all_goals try (exfalso; omega)
      go_ret
      exact ⟨_, rfl, by rw [HE2]; exact HB.out, HF.out⟩
theorem name_alt (l : List UInt8) : nameB l = ((lnsA [] l).all labB && decide (l.length ≤ 253)) := by
  unfold nameB
  cases l with
  | nil => simp [lnsA, labB]
  | cons c r =>
    rw [decide_eq_true (by simp : 1 ≤ (c :: r).length), Bool.true_and, Bool.and_comm]
set_option maxRecDepth 100000 in
set_option maxHeartbeats 1000000 in
theorem rname_any (l : List UInt8) (w : World) (hs : l.length ≤ 4000000) : Calls Try.prog 35 #[.string (tx l)] w fun e w' => e = .returned (.bool (nameB l)) ∧ Fresh w w' := by
  have HCUT := Lib.hid (fun W => rcut_any l W hs)
  have HLB : Hid (∀ (k : Nat) (h : k < (lnsA [] l).length) W, Calls Try.prog 53 #[.string (tx (lnsA [] l)[k])] W fun e w' => e = .returned (.bool (labB (lnsA [] l)[k])) ∧ W = w') := fun k h W => by
    have := rlabel_any (tx (lnsA [] l)[k]) W (by rw [tx_size]; have := lnsA_mem l [] _ (List.getElem_mem h); simp at this; omega)
    rwa [tx_toList] at this
  have HNA := Lib.hid (name_alt l)
  have hpos : 0 < (lnsA [] l).length := List.length_pos_iff.2 (lnsA_ne [] l)
  have hle := lnsA_len [] l
  have hsz := tx_size l
  rw [HNA.out]
  clear HNA
  generalize lnsA [] l = ps at *
  generalize hS : tx l = S at *
  have hs2 : S.size ≤ 4000000 := by omega
  have HSZ := Lib.hid hsz
  have HPL : Hid (ps.length ≤ 5000000) := by rw [Hid]; omega
  clear hsz hle hs hS
  go_enter Try.func35, Try.ntmps35
  go_wp2_with (fail)
  refine (HCUT.out _).mono ?_
  rintro e w1 ⟨v, rfl, hrow, hf⟩
  obtain ⟨g, cap, rfl⟩ : ∃ g cap, v = .slice (some ⟨g, 0, none⟩) ps.length cap := by
    rcases hrow.2 with ⟨_, h0⟩ | ⟨g, cap, cur, h1, _⟩
    · omega
    · exact ⟨g, cap, h1⟩
  have HROW := Lib.hid hrow
  have HF := Lib.hid hf
  clear hrow hf HCUT
  go_wp2
  go_loopw [4] (fun a4 wr => ∃ (k : Nat), a4 = .int .i64 (k : Int) ∧ k ≤ ps.length ∧ w1 = wr ∧ Hid (∀ p ∈ ps.take k, labB p = true)) (fun a4 _ => ps.length - (intOf a4).toNat)
  case atStart => exact ⟨0, rfl, Nat.zero_le _, rfl, by simp [Hid]⟩
  case round =>
    obtain ⟨k, rfl, hk, rfl, HA⟩ := hrel
    have hpl := HPL.out
    by_cases hlt : k < ps.length
    · have HC := Lib.hid (HLB.out k hlt)
      have hcell := SBuf.cell HROW.out k hlt
      cases hp : labB ps[k] with
      | false =>
        rw [hp] at HC
        have HR : Hid ((ps.all labB && decide (l.length ≤ 253)) = false) := by
          rw [Hid, Bool.and_eq_false_iff]
          left
          rw [Bool.eq_false_iff]
          intro h
          have := List.all_eq_true.1 h ps[k] (List.getElem_mem hlt)
          rw [hp] at this; cases this
        clear hp
        generalize tx ps[k] = P at *
        go_wp2_with (go_at_call 53; refine (HC.out _).mono ?_; rintro e w' ⟨rfl, rfl⟩)
        all_goals try (exfalso; omega)
        go_ret
        exact ⟨ret_bool HR.out.symm, HF.out⟩
      | true =>
        rw [hp] at HC
        have HN : Hid (∀ p ∈ ps.take (k + 1), labB p = true) := by
          rw [Hid, List.take_succ_eq_append_getElem hlt]
          intro c hc
          rcases List.mem_append.1 hc with h | h
          · exact HA.out c h
          · rw [List.mem_singleton.1 h]; exact hp
        clear hp
        generalize tx ps[k] = P at *
        go_wp2_with (go_at_call 53; refine (HC.out _).mono ?_; rintro e w' ⟨rfl, rfl⟩)
        all_goals try (exfalso; omega)
        go_roundw
        case rel => exact ⟨k + 1, by simp, by omega, by trivial, HN.out⟩
        case measure => simp [intOf]; omega
    · obtain rfl : k = ps.length := by omega
      have HR : Hid ((ps.all labB && decide (l.length ≤ 253)) = decide ((S.size : Int) ≤ 253)) := by
        rw [Hid]
        have : ps.all labB = true := by
          rw [List.all_eq_true]
          intro c hc
          exact HA.out c (by rw [List.take_length]; exact hc)
        rw [this, Bool.true_and, Bool.eq_iff_iff]
        simp only [decide_eq_true_eq]
        rw [HSZ.out]; omega
      go_wp2
      all_goals try (exfalso; omega)
      go_ret
      exact ⟨ret_bool HR.out.symm, HF.out⟩
end Go.Proofs.Ytphjhlnjfcfdcaa
