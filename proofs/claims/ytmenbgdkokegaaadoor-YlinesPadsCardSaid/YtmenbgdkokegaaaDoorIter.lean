/-
  Package ylines: a range over a text's lines.
-/
import Derived.Test.YtmenbgdkokegaaaDoorSmall
import Derived.RangeFuncNested
import Derived.RangeFuncBound
import Derived.RangeFuncCalls
import Derived.RangeFuncLeaves
import Derived.RangeFuncBox
import Derived.OwnWalkIn
import Derived.TacticsInMore
import Derived.LoopNIn
import Derived.LoopIn
namespace Go.Proofs.YtmenbgdkokegaaaDoor
open Go.ChangeShapes Go.WideShapes Go.ChangeAt Go.RowKit Go.Shelf
attribute [local go_sem] Oper.semAt_some
variable {w : World}

theorem index1_any (l : List UInt8) (w : World) : Calls Tryd.prog 40 #[.string (tx l), .string ⟨#[10]⟩] w fun e w' => e = .returned (.int .i64 (Lib.indexByte l 10)) ∧ w = w' := by
  refine (Any.stringslite_Index_one Tryd.laysSub (tx l) 10 w).mono ?_
  rintro e w' ⟨h1, h2⟩
  rw [tx_toList] at h1
  exact ⟨h1, h2.symm⟩
/-- The first line, what is behind it, and whether there was a line feed. -/
def cutF (l : List UInt8) : List UInt8 × List UInt8 × Bool := if Lib.indexByte l 10 = -1 then (l, [], false) else (l.take (Lib.indexByte l 10).toNat, l.drop ((Lib.indexByte l 10).toNat + 1), true)
theorem cutS_any (l : List UInt8) (w : World) (hs : l.length ≤ 1000000) : Calls Tryd.prog 28 #[.string (tx l), .string ⟨#[10]⟩] w fun e w' => e = .returned (.tuple #[.string (tx (cutF l).1), .string (tx (cutF l).2.1), .bool (cutF l).2.2]) ∧ Fresh w w' := by
  have HI := Lib.hid (fun W => index1_any l W)
  rcases indexByte_cases l 10 with h | ⟨k, h⟩
  · have HC : Hid (cutF l = (l, [], false)) := by rw [Hid, cutF, if_pos h]
    rw [h] at HI
    clear h
    rw [HC.out]
    dsimp only
    clear HC
    generalize tx l = s at *
    go_enter Tryd.func28, Tryd.ntmps28
    go_wp2_with (go_at_call 40; refine (HI.out _).mono ?_; rintro e w' ⟨rfl, rfl⟩)
    go_ret3
    exact ⟨rfl, Fresh.refl _⟩
  · have HC : Hid (cutF l = (l.take k, l.drop (k + 1), true)) := by rw [Hid, cutF, if_neg (by omega), h]; simp
    have hk := (indexByte_some l 10 k h).1
    rw [h] at HI
    clear h
    rw [HC.out]
    dsimp only
    clear HC
    have HSZ := Lib.hid (tx_size l)
    have q1 : (tx l).extract 0 k = tx (l.take k) := by rw [tx_extract, tx_toList]; simp
    have q2 : (tx l).extract (k + 1) (tx l).size = tx (l.drop (k + 1)) := by
      rw [tx_extract, tx_toList, tx_size]
      congr 1
      rw [List.take_of_length_le (by simp)]
    have hks : k < (tx l).size := by rw [HSZ.out]; exact hk
    have hsz : (tx l).size ≤ 1000000 := by rw [HSZ.out]; exact hs
    generalize tx (l.take k) = r1 at *
    generalize tx (l.drop (k + 1)) = r2 at *
    generalize tx l = s at *
    clear HSZ hk
    have c1 : (0 : Int) ≤ ↑k := by omega
    have c2 : (↑k : Int) ≤ ↑s.size := by omega
    have c3 : (0 : Int) ≤ ↑k + 1 := by omega
    have c4 : (↑k + 1 : Int) ≤ ↑s.size := by omega
    go_enter Tryd.func28, Tryd.ntmps28
    go_wp2_with (go_at_call 40; refine (HI.out _).mono ?_; rintro e w' ⟨rfl, rfl⟩)
    go_region
    go_wp2
    go_ret3
    exact ⟨rfl, Fresh.drew (Fresh.refl _)⟩
theorem cut_any (l : List UInt8) (w : World) (hs : l.length ≤ 1000000) : Calls Tryd.prog 18 #[.string (tx l), .string ⟨#[10]⟩] w fun e w' => e = .returned (.tuple #[.string (tx (cutF l).1), .string (tx (cutF l).2.1), .bool (cutF l).2.2]) ∧ Fresh w w' := by
  have HI := Lib.hid (fun W => cutS_any l W hs)
  generalize cutF l = c at *
  obtain ⟨a, b, d⟩ := c
  dsimp only at *
  generalize tx l = s at *
  generalize tx a = r1 at *
  generalize tx b = r2 at *
  go_enter Tryd.func18, Tryd.ntmps18
  go_wp2_with fail
  refine (HI.out _).mono ?_
  rintro e w' ⟨rfl, hf⟩
  have HF := Lib.hid hf
  clear hf
  go_wp2
  go_ret3
  exact ⟨rfl, HF.out⟩
theorem lns_cut_no (l : List UInt8) (h : (cutF l).2.2 = false) : lnsA [] l = [(cutF l).1] := by
  unfold cutF at *
  by_cases hx : Lib.indexByte l 10 = -1
  · rw [if_pos hx]
    exact lnsA_none l [] (indexByte_none l 10 hx)
  · rw [if_neg hx] at h
    cases h
theorem lns_cut_yes (l : List UInt8) (h : (cutF l).2.2 = true) : lnsA [] l = (cutF l).1 :: lnsA [] (cutF l).2.1 ∧ (cutF l).2.1.length < l.length := by
  unfold cutF at *
  by_cases hx : Lib.indexByte l 10 = -1
  · rw [if_pos hx] at h
    cases h
  · rw [if_neg hx]
    rcases indexByte_cases l 10 with h1 | ⟨k, h1⟩
    · exact absurd h1 hx
    · rw [h1, Int.toNat_natCast]
      obtain ⟨h2, h3, h4⟩ := indexByte_some l 10 k h1
      refine ⟨?_, by simp; omega⟩
      conv => lhs; rw [h3]
      rw [lnsA_cut _ _ _ h4]
      simp
/-- Lines with their numbers. -/
def nums : Nat → List (List UInt8) → List (Nat × List UInt8)
  | _, [] => []
  | n, l :: ls => (n, l) :: nums (n + 1) ls
theorem nums_len : ∀ (ls : List (List UInt8)) (n : Nat), (nums n ls).length = ls.length
  | [], n => rfl
  | l :: ls, n => by rw [nums, List.length_cons, nums_len ls (n + 1), List.length_cons]
def clip (l : List UInt8) : List UInt8 := l.take 1000000
theorem clip_len (l : List UInt8) : (clip l).length ≤ 1000000 := by simp [clip]; omega
theorem clip_self {l : List UInt8} (h : l.length ≤ 1000000) : clip l = l := List.take_of_length_le h
/-- A line as it is handed over. -/
def encL (x : Nat × List UInt8) : Array Value := #[.int .i64 (x.1 : Int), .string (tx (clip x.2))]
theorem cutF_len (l : List UInt8) : (cutF l).1.length ≤ l.length := by
  unfold cutF
  split
  · exact Nat.le_refl _
  · simp; omega
theorem cutF_len2 (l : List UInt8) : (cutF l).2.1.length ≤ l.length := by
  unfold cutF
  split
  · simp
  · simp
set_option maxRecDepth 100000 in
set_option maxHeartbeats 2000000 in
theorem iter_stops (l : List UInt8) (Bn : Nat) (w : World) (n : Nat) (hn : 2 ≤ n) (hs : l.length ≤ 1000000) (hBn : Bn < w.heap.size) (hc : w.cell? ⟨Bn, 0, none⟩ = some (.string (tx l))) :
    SeqStopsK Fence.wide n Tryd.prog 17 #[.pointer (some ⟨Bn, 0, none⟩)] encL (fun _ _ => True) (fun xs => xs = nums 0 (lnsA [] l)) (fun pre => pre <+: nums 0 (lnsA [] l)) (lnsA [] l).length w := fun y J Jx W hW hJ _ hY h0 => by
  have hc' : W.cell? ⟨Bn, 0, none⟩ = some (.string (tx l)) := (hW.cell (p := ⟨Bn, 0, none⟩) hBn).trans hc
  dsimp only
  obtain ⟨full, hfull⟩ : ∃ full, full = nums 0 (lnsA [] l) := ⟨_, rfl⟩
  have hlen : full.length = (lnsA [] l).length := by rw [hfull, nums_len]
  rw [← hlen] at hY
  rw [← hfull]
  have HFULL := Lib.hid hfull
  have hln := lnsA_len [] l
  have HLN : Hid (full.length ≤ 1000001) := by rw [Hid, hlen]; omega
  have HY := Lib.hid hY
  have HJ := Lib.hid hJ
  have H0 := Lib.hid h0
  clear hfull hlen hln hY hJ h0 hc hW
  refine callsIn_of_wp Tryd.func17 rfl trivial ?_ rfl
  simp only [Tryd.ntmps17, List.size_toArray, List.length_cons, List.length_nil, Nat.reduceAdd, Nat.reduceSub, Array.replicate_succ, Array.replicate_zero, List.push_toArray, List.append_toArray, List.nil_append, List.cons_append]
  gi_wp2
  gi_loopw [3, 4, 5] (fun a3 a4 a5 wr => ∃ (pre : List (Nat × List UInt8)) (r : List UInt8) (more : Bool) (k : Nat), a3 = .string (tx r) ∧ a4 = .bool more ∧ a5 = .int .i64 (k : Int) ∧ k ≤ 1000001 ∧ Hid (J pre wr) ∧ Hid (r.length ≤ 1000000) ∧ Hid (pre.length = k) ∧ Hid (more = true → full = pre ++ nums k (lnsA [] r)) ∧ Hid (more = false → full = pre))
    (fun a3 a4 _ _ => match a4 with | .bool true => Lib.strSize a3 + 1 | _ => 0)
  case atStart => exact ⟨[], l, true, 0, rfl, rfl, by simp, by omega, H0.out, hs, rfl, fun _ => HFULL.out, fun h => by cases h⟩
  case round =>
    obtain ⟨pre, r, more, k, rfl, rfl, rfl, hk, HJS, HR, HPL, HT, HF⟩ := hrel
    cases more with
    | false =>
      gi_wp2
      go_end0
      exact ⟨⟨_, rfl⟩, .inl (by rw [HF.out (by simp)]; exact HJS.out)⟩
    | true =>
      have HCUT := Lib.hid (cut_any r wr HR.out)
      have HNO := Lib.hid (lns_cut_no r)
      have HYES := Lib.hid (lns_cut_yes r)
      have hc1 := cutF_len r
      have hc2 := cutF_len2 r
      generalize cutF r = c at *
      obtain ⟨c1, c2, m⟩ := c
      dsimp only at *
      have HC1 : Hid (clip c1 = c1) := clip_self (by have := HR.out; omega)
      have HC2 : Hid (c2.length ≤ 1000000) := by have := HR.out; rw [Hid]; omega
      clear hc1 hc2
      have HSZ := Lib.hid (tx_size r)
      gi_wp2_with (fail)
      refine ⟨trivial, fun _ => by omega, ?_⟩
      refine (callsIn_wide.2 HCUT.out).mono ?_
      rintro e W2 ⟨rfl, hf⟩
      have HJ2 := Lib.hid (HJ.out pre wr W2 none HJS.out ⟨hf.os, hf.tape, hf.output, hf.size, fun k hk _ => hf.block k hk⟩ (fun r e => by cases e))
      clear hf
      have hnum : full = pre ++ (k, c1) :: (if m = true then nums (k + 1) (lnsA [] c2) else []) := by
        rw [HT.out (by simp)]
        cases m with
        | false => rw [HNO.out rfl]; rfl
        | true => rw [(HYES.out rfl).1]; rfl
      have hlt : pre.length < full.length := by rw [hnum]; simp
      have HK : Hid (k < 1000001) := by rw [Hid, ← HPL.out]; have := HLN.out; omega
      have hk1 := HK.out
      obtain ⟨fn, tmps, assign, body, hy, hR⟩ := HY.out pre (k, c1) W2 HJ2.out hlt
      dsimp only [encL] at hy
      rw [HC1.out] at hy
      have HNUM := Lib.hid hnum
      have HRR := Lib.hid hR
      clear hnum hlt hR
      gi_wp2_with (fail)
      refine ⟨fun _ => by omega, ?_⟩
      refine HRR.out.mono ?_
      clear HRR hy
      rintro e W3 (⟨rfl, hJ3, _⟩ | ⟨rfl, hJx3⟩)
      · have HJ3 := Lib.hid hJ3
        clear hJ3
        gi_wp2
        go_roundw
        case rel =>
          refine ⟨pre ++ [(k, c1)], c2, m, k + 1, rfl, rfl, by simp, by omega, HJ3.out, HC2.out, ?_, ?_, ?_⟩
          · rw [Hid, List.length_append, HPL.out]; rfl
          · intro h
            rw [HNUM.out, if_pos h]; simp
          · intro h
            rw [HNUM.out, if_neg (by rw [h]; simp)]
        case measure =>
          cases m with
          | false => simp
          | true =>
            have := (HYES.out rfl).2
            simp [Lib.strSize_string, tx_size]; omega
      · have HJ3 := Lib.hid hJx3
        clear hJx3
        gi_wp2
        refine bodyPost_ret (results_none rfl _ _ _) rfl ?_
        exact ⟨⟨_, rfl⟩, .inr ⟨pre ++ [(k, c1)], ⟨if m = true then nums (k + 1) (lnsA [] c2) else [], by rw [HNUM.out]; simp⟩, HJ3.out⟩⟩
theorem lines9_any (s : ByteArray) (w : World) : Calls Tryd.prog 9 #[.string s] w fun e w' => e = .returned (.func (.func 17) #[] #[.pointer (some ⟨w.heap.size, 0, none⟩)]) ∧ w' = w.alloc (.cells #[.string s] 9) := by
  go_enter Tryd.func9, Tryd.ntmps9
  go_wp2
  go_ret
  exact ⟨rfl, rfl⟩
end Go.Proofs.YtmenbgdkokegaaaDoor
