/-
  Parts of the proof: Small Iter Clone Add May Content.
-/
import Derived.Test.YtcljplkkgpjhlaaGreatDoorRCat01
import Derived.Test.YtcljplkkgpjhlaaGreatDoorRCat04
import Derived.BigQuiet
import Derived.Shelf.RegionOpen
import Derived.RangeFuncNested
import Derived.RangeFuncBound
import Derived.RangeFuncCalls
import Derived.RangeFuncLeaves
import Derived.RangeFuncBox
import Derived.OwnWalkIn
import Derived.TacticsInMore
import Derived.LoopNIn
import Derived.LoopIn
import Derived.Lib.UnsafeStr
import Derived.Lib.BufferWrite
import Derived.Lib.Walk
import Derived.Laws.BitsAllLaws
import Derived.Test.YtcljplkkgpjhlaaGreatDoorRCat07
set_option maxRecDepth 100000
set_option maxHeartbeats 8000000
namespace Go.Proofs.YtcljplkkgpjhlaaGreatDoorR
section
open Go.ChangeShapes Go.WideShapes Go.ChangeAt Go.RowKit
attribute [local go_sem ↓] Go.wp_at_zero Go.wp_at_succ
variable {w : World}
theorem trimL_any (l : List UInt8) (w : World) : Calls Tryz.prog 109 #[.string (tx l), .string ⟨#[32]⟩] w fun e w' => e = .returned (.string (tx (Lib.trimLeftB l 32))) ∧ w = w' := by
  refine (Any.strings_TrimLeft_one Tryz.laysTrimL (tx l) 32 (by decide) w).mono ?_
  rintro e w' ⟨h1, h2⟩
  rw [tx_toList] at h1
  exact ⟨h1, h2.symm⟩
theorem trimR_any (s : ByteArray) (w : World) (hs : s.size ≤ 1000000) : Calls Tryz.prog 79 #[.string s, .string ⟨#[32]⟩] w fun e w' => e = .returned (.string (tx (Lib.trimRightB s.data.toList 32))) ∧ w = w' := by
  refine (Any.strings_TrimRight_one Tryz.laysTrimR s 32 (by decide) w (by omega)).mono ?_
  rintro e w' ⟨h1, h2⟩
  exact ⟨h1, h2.symm⟩
theorem hasPre_any (l p : List UInt8) (w : World) : Calls Tryz.prog 110 #[.string (tx l), .string (tx p)] w fun e w' => e = .returned (.bool (p.isPrefixOf l)) ∧ w = w' := by
  refine (Any.strings_HasPrefix Tryz.laysHas (tx l) (tx p) w).mono ?_
  rintro e w' ⟨h1, h2⟩
  rw [tx_toList, tx_toList] at h1
  exact ⟨h1, h2.symm⟩
theorem past_any (l : List UInt8) (a : Nat) (w : World) (ha : a ≤ l.length) (hs : l.length ≤ 1000000) : Calls Tryz.prog 80 #[.string (tx l), .int .i64 (a : Int)] w fun e w' => e = .returned (.int .i64 ((a + blanks (l.drop a) : Nat) : Int)) ∧ w = w' := by
  have hsz := tx_size l
  have HT := Lib.hid (fun W => trimL_any (l.drop a) W)
  have HE : Hid ((tx l).extract a (tx l).size = tx (l.drop a)) := by
    rw [Hid, tx_extract, tx_toList, hsz]
    congr 1
    rw [List.take_of_length_le (by simp)]
  have hz : (tx (Lib.trimLeftB (l.drop a) 32)).size = l.length - a - blanks (l.drop a) := by
    rw [tx_size, trimLeft_len, List.length_drop]
  have hb := blanks_le (l.drop a)
  rw [List.length_drop] at hb
  have q0 := HE.out
  obtain ⟨b, hbb⟩ : ∃ b, b = blanks (l.drop a) := ⟨_, rfl⟩
  rw [← hbb] at hz hb ⊢
  have ha' : a ≤ (tx l).size := by omega
  have HSZ := Lib.hid hsz
  have HZ := Lib.hid hz
  have HR : Hid (((tx l).size : Int) - ((tx (Lib.trimLeftB (l.drop a) 32)).size : Int) = ((a + b : Nat) : Int)) := by
    rw [Hid, hsz, hz]; omega
  have hw : wrap64 (((tx l).size : Int) - ((tx (Lib.trimLeftB (l.drop a) 32)).size : Int)) = ((a + b : Nat) : Int) := by
    rw [HR.out]; unfold wrap64; omega
  have hs2 : (tx l).size ≤ 1000000 := by omega
  clear hsz hz hbb
  generalize tx (Lib.trimLeftB (l.drop a) 32) = r at *
  generalize tx (l.drop a) = d at *
  generalize tx l = s at *
  have hr : r.size ≤ s.size := by rw [HZ.out, HSZ.out]; omega
  have HW := Lib.hid hw
  clear hw HE
  go_enter Tryz.func80, Tryz.ntmps80
  go_wp2_with (go_at_call 109; refine (HT.out _).mono ?_; rintro e w' ⟨rfl, rfl⟩)
  go_ret
  refine ⟨?_, rfl⟩
  show Ending.returned (.int .i64 _) = _
  exact ret_int HR.out
theorem isDash_any (l : List UInt8) (w : World) : Calls Tryz.prog 81 #[.string (tx l)] w fun e w' => e = .returned (.bool (dashB l)) ∧ w = w' := by
  have HP := Lib.hid (fun W => hasPre_any l [45, 32] W)
  by_cases h : l = [45]
  · subst h
    have e0 : (tx [45]).toList = [45] := by rw [Lib.toList_data, tx_toList]
    clear HP
    go_enter Tryz.func81, Tryz.ntmps81
    go_wp2
    go_ret
    exact ⟨rfl, rfl⟩
  · have hd : dashB l = [45, 32].isPrefixOf l := by
      unfold dashB
      rw [show (l == [45]) = false by simpa using h]; rfl
    have hne : ((tx l).toList == [45]) = false := by
      rw [Lib.toList_data, tx_toList]; simpa using h
    have hne2 : ((45 : UInt8) :: [] == (tx l).toList) = false := by
      rw [Lib.toList_data, tx_toList]; simpa using fun e => h e.symm
    rw [hd]
    clear hd h
    generalize tx l = s at *
    go_enter Tryz.func81, Tryz.ntmps81
    go_wp2_with (go_at_call 110; refine (HP.out _).mono ?_; rintro e w' ⟨rfl, rfl⟩)
    go_ret
    exact ⟨rfl, rfl⟩
theorem valid19_any (s : ByteArray) (w : World) (hs : s.size ≤ 1000000) (hT : Lib.Utf8Tabs (Tryz.laysValid_ren.g 3) (Tryz.laysValid_ren.g 4) w) : Calls Tryz.prog 78 #[.string s] w fun e w' => e = .returned (.bool (Lib.validD s.data.toList)) ∧ Fresh w w' := by
  have H := Lib.hid ((Any.utf8_ValidString Tryz.laysValid s w (by omega) hT).mono (fun e w' h => h))
  clear hT
  go_enter Tryz.func78, Tryz.ntmps78
  go_wp2_with fail
  refine H.out.mono ?_
  rintro e w' ⟨rfl, hf⟩
  have HF := Lib.hid hf
  clear hf
  go_wp2
  go_ret
  exact ⟨rfl, HF.out⟩
end
section
open Go.ChangeShapes Go.WideShapes Go.ChangeAt Go.RowKit Go.Shelf
attribute [local go_sem] Oper.semAt_some
variable {w : World}
theorem index1_any (l : List UInt8) (w : World) : Calls Tryz.prog 129 #[.string (tx l), .string ⟨#[10]⟩] w fun e w' => e = .returned (.int .i64 (Lib.indexByte l 10)) ∧ w = w' := by
  refine (Any.stringslite_Index_one Tryz.laysSub (tx l) 10 w).mono ?_
  rintro e w' ⟨h1, h2⟩
  rw [tx_toList] at h1
  exact ⟨h1, h2.symm⟩
def cutF (l : List UInt8) : List UInt8 × List UInt8 × Bool := if Lib.indexByte l 10 = -1 then (l, [], false) else (l.take (Lib.indexByte l 10).toNat, l.drop ((Lib.indexByte l 10).toNat + 1), true)
theorem cutS_any (l : List UInt8) (w : World) (hs : l.length ≤ 1000000) : Calls Tryz.prog 103 #[.string (tx l), .string ⟨#[10]⟩] w fun e w' => e = .returned (.tuple #[.string (tx (cutF l).1), .string (tx (cutF l).2.1), .bool (cutF l).2.2]) ∧ Fresh w w' := by
  have HI := Lib.hid (fun W => index1_any l W)
  rcases indexByte_cases l 10 with h | ⟨k, h⟩
  · have HC : Hid (cutF l = (l, [], false)) := by rw [Hid, cutF, if_pos h]
    rw [h] at HI
    clear h
    rw [HC.out]
    dsimp only
    clear HC
    generalize tx l = s at *
    go_enter Tryz.func103, Tryz.ntmps103
    go_wp2_with (go_at_call 129; refine (HI.out _).mono ?_; rintro e w' ⟨rfl, rfl⟩)
    go_ret3
    exact ⟨rfl, Fresh.refl _⟩
  · have HC : Hid (cutF l = (l.take k, l.drop (k + 1), true)) := by rw [Hid, cutF, if_neg (by omega), h]; simp
    have hk := (indexByte_some l 10 k h).1
    rw [h] at HI
    clear h
    rw [HC.out]
    dsimp only
    clear HC
    have HSZ := Lib.hid (tx_size l)
    have q1 : (tx l).extract 0 k = tx (l.take k) := by rw [tx_extract, tx_toList]; simp
    have q2 : (tx l).extract (k + 1) (tx l).size = tx (l.drop (k + 1)) := by
      rw [tx_extract, tx_toList, tx_size]
      congr 1
      rw [List.take_of_length_le (by simp)]
    have hks : k < (tx l).size := by rw [HSZ.out]; exact hk
    have hsz : (tx l).size ≤ 1000000 := by rw [HSZ.out]; exact hs
    generalize tx (l.take k) = r1 at *
    generalize tx (l.drop (k + 1)) = r2 at *
    generalize tx l = s at *
    clear HSZ hk
    have c1 : (0 : Int) ≤ ↑k := by omega
    have c2 : (↑k : Int) ≤ ↑s.size := by omega
    have c3 : (0 : Int) ≤ ↑k + 1 := by omega
    have c4 : (↑k + 1 : Int) ≤ ↑s.size := by omega
    go_enter Tryz.func103, Tryz.ntmps103
    go_wp2_with (go_at_call 129; refine (HI.out _).mono ?_; rintro e w' ⟨rfl, rfl⟩)
    go_region
    go_wp2
    go_ret3
    exact ⟨rfl, Fresh.drew (Fresh.refl _)⟩
theorem cut_any (l : List UInt8) (w : World) (hs : l.length ≤ 1000000) : Calls Tryz.prog 77 #[.string (tx l), .string ⟨#[10]⟩] w fun e w' => e = .returned (.tuple #[.string (tx (cutF l).1), .string (tx (cutF l).2.1), .bool (cutF l).2.2]) ∧ Fresh w w' := by
  have HI := Lib.hid (fun W => cutS_any l W hs)
  generalize cutF l = c at *
  obtain ⟨a, b, d⟩ := c
  dsimp only at *
  generalize tx l = s at *
  generalize tx a = r1 at *
  generalize tx b = r2 at *
  go_enter Tryz.func77, Tryz.ntmps77
  go_wp2_with fail
  refine (HI.out _).mono ?_
  rintro e w' ⟨rfl, hf⟩
  have HF := Lib.hid hf
  clear hf
  go_wp2
  go_ret3
  exact ⟨rfl, HF.out⟩
theorem lns_cut_no (l : List UInt8) (h : (cutF l).2.2 = false) : lnsA [] l = [(cutF l).1] := by
  unfold cutF at *
  by_cases hx : Lib.indexByte l 10 = -1
  · rw [if_pos hx]
    exact lnsA_none l [] (indexByte_none l 10 hx)
  · rw [if_neg hx] at h
    cases h
theorem lns_cut_yes (l : List UInt8) (h : (cutF l).2.2 = true) : lnsA [] l = (cutF l).1 :: lnsA [] (cutF l).2.1 ∧ (cutF l).2.1.length < l.length := by
  unfold cutF at *
  by_cases hx : Lib.indexByte l 10 = -1
  · rw [if_pos hx] at h
    cases h
  · rw [if_neg hx]
    rcases indexByte_cases l 10 with h1 | ⟨k, h1⟩
    · exact absurd h1 hx
    · rw [h1, Int.toNat_natCast]
      obtain ⟨h2, h3, h4⟩ := indexByte_some l 10 k h1
      refine ⟨?_, by simp; omega⟩
      conv => lhs; rw [h3]
      rw [lnsA_cut _ _ _ h4]
      simp
def nums : Nat → List (List UInt8) → List (Nat × List UInt8)
  | _, [] => []
  | n, l :: ls => (n, l) :: nums (n + 1) ls
theorem nums_len : ∀ (ls : List (List UInt8)) (n : Nat), (nums n ls).length = ls.length
  | [], n => rfl
  | l :: ls, n => by rw [nums, List.length_cons, nums_len ls (n + 1), List.length_cons]
def clip (l : List UInt8) : List UInt8 := l.take 1000000
theorem clip_len (l : List UInt8) : (clip l).length ≤ 1000000 := by simp [clip]; omega
theorem clip_self {l : List UInt8} (h : l.length ≤ 1000000) : clip l = l := List.take_of_length_le h
def encL (x : Nat × List UInt8) : Array Value := #[.int .i64 (x.1 : Int), .string (tx (clip x.2))]
theorem cutF_len (l : List UInt8) : (cutF l).1.length ≤ l.length := by
  unfold cutF
  split
  · exact Nat.le_refl _
  · simp; omega
theorem cutF_len2 (l : List UInt8) : (cutF l).2.1.length ≤ l.length := by
  unfold cutF
  split
  · simp
  · simp
theorem iter_stops (l : List UInt8) (Bn : Nat) (w : World) (n : Nat) (hn : 2 ≤ n) (hs : l.length ≤ 1000000) (hBn : Bn < w.heap.size) (hc : w.cell? ⟨Bn, 0, none⟩ = some (.string (tx l))) :
    SeqStopsK Fence.wide n Tryz.prog 76 #[.pointer (some ⟨Bn, 0, none⟩)] encL (fun _ _ => True) (fun xs => xs = nums 0 (lnsA [] l)) (fun pre => pre <+: nums 0 (lnsA [] l)) (lnsA [] l).length w := fun y J Jx W hW hJ _ hY h0 => by
  have hc' : W.cell? ⟨Bn, 0, none⟩ = some (.string (tx l)) := (hW.cell (p := ⟨Bn, 0, none⟩) hBn).trans hc
  dsimp only
  obtain ⟨full, hfull⟩ : ∃ full, full = nums 0 (lnsA [] l) := ⟨_, rfl⟩
  have hlen : full.length = (lnsA [] l).length := by rw [hfull, nums_len]
  rw [← hlen] at hY
  rw [← hfull]
  have HFULL := Lib.hid hfull
  have hln := lnsA_len [] l
  have HLN : Hid (full.length ≤ 1000001) := by rw [Hid, hlen]; omega
  have HY := Lib.hid hY
  have HJ := Lib.hid hJ
  have H0 := Lib.hid h0
  clear hfull hlen hln hY hJ h0 hc hW
  refine callsIn_of_wp Tryz.func76 rfl trivial ?_ rfl
  simp only [Tryz.ntmps76, List.size_toArray, List.length_cons, List.length_nil, Nat.reduceAdd, Nat.reduceSub, Array.replicate_succ, Array.replicate_zero, List.push_toArray, List.append_toArray, List.nil_append, List.cons_append]
  gi_wp2
  gi_loopw [3, 4, 5] (fun a3 a4 a5 wr => ∃ (pre : List (Nat × List UInt8)) (r : List UInt8) (more : Bool) (k : Nat), a3 = .string (tx r) ∧ a4 = .bool more ∧ a5 = .int .i64 (k : Int) ∧ k ≤ 1000001 ∧ Hid (J pre wr) ∧ Hid (r.length ≤ 1000000) ∧ Hid (pre.length = k) ∧ Hid (more = true → full = pre ++ nums k (lnsA [] r)) ∧ Hid (more = false → full = pre))
    (fun a3 a4 _ _ => match a4 with | .bool true => Lib.strSize a3 + 1 | _ => 0)
  case atStart => exact ⟨[], l, true, 0, rfl, rfl, by simp, by omega, H0.out, hs, rfl, fun _ => HFULL.out, fun h => by cases h⟩
  case round =>
    obtain ⟨pre, r, more, k, rfl, rfl, rfl, hk, HJS, HR, HPL, HT, HF⟩ := hrel
    cases more with
    | false =>
      gi_wp2
      go_end0
      exact ⟨⟨_, rfl⟩, .inl (by rw [HF.out (by simp)]; exact HJS.out)⟩
    | true =>
      have HCUT := Lib.hid (cut_any r wr HR.out)
      have HNO := Lib.hid (lns_cut_no r)
      have HYES := Lib.hid (lns_cut_yes r)
      have hc1 := cutF_len r
      have hc2 := cutF_len2 r
      generalize cutF r = c at *
      obtain ⟨c1, c2, m⟩ := c
      dsimp only at *
      have HC1 : Hid (clip c1 = c1) := clip_self (by have := HR.out; omega)
      have HC2 : Hid (c2.length ≤ 1000000) := by have := HR.out; rw [Hid]; omega
      clear hc1 hc2
      have HSZ := Lib.hid (tx_size r)
      gi_wp2_with (fail)
      refine ⟨trivial, fun _ => by omega, ?_⟩
      refine (callsIn_wide.2 HCUT.out).mono ?_
      rintro e W2 ⟨rfl, hf⟩
      have HJ2 := Lib.hid (HJ.out pre wr W2 none HJS.out ⟨hf.os, hf.tape, hf.output, hf.size, fun k hk _ => hf.block k hk⟩ (fun r e => by cases e))
      clear hf
      have hnum : full = pre ++ (k, c1) :: (if m = true then nums (k + 1) (lnsA [] c2) else []) := by
        rw [HT.out (by simp)]
        cases m with
        | false => rw [HNO.out rfl]; rfl
        | true => rw [(HYES.out rfl).1]; rfl
      have hlt : pre.length < full.length := by rw [hnum]; simp
      have HK : Hid (k < 1000001) := by rw [Hid, ← HPL.out]; have := HLN.out; omega
      have hk1 := HK.out
      obtain ⟨fn, tmps, assign, body, hy, hR⟩ := HY.out pre (k, c1) W2 HJ2.out hlt
      dsimp only [encL] at hy
      rw [HC1.out] at hy
      have HNUM := Lib.hid hnum
      have HRR := Lib.hid hR
      clear hnum hlt hR
      gi_wp2_with (fail)
      refine ⟨fun _ => by omega, ?_⟩
      refine HRR.out.mono ?_
      clear HRR hy
      rintro e W3 (⟨rfl, hJ3, _⟩ | ⟨rfl, hJx3⟩)
      · have HJ3 := Lib.hid hJ3
        clear hJ3
        gi_wp2
        go_roundw
        case rel =>
          refine ⟨pre ++ [(k, c1)], c2, m, k + 1, rfl, rfl, by simp, by omega, HJ3.out, HC2.out, ?_, ?_, ?_⟩
          · rw [Hid, List.length_append, HPL.out]; rfl
          · intro h
            rw [HNUM.out, if_pos h]; simp
          · intro h
            rw [HNUM.out, if_neg (by rw [h]; simp)]
        case measure =>
          cases m with
          | false => simp
          | true =>
            have := (HYES.out rfl).2
            simp [Lib.strSize_string, tx_size]; omega
      · have HJ3 := Lib.hid hJx3
        clear hJx3
        gi_wp2
        refine bodyPost_ret (results_none rfl _ _ _) rfl ?_
        exact ⟨⟨_, rfl⟩, .inr ⟨pre ++ [(k, c1)], ⟨if m = true then nums (k + 1) (lnsA [] c2) else [], by rw [HNUM.out]; simp⟩, HJ3.out⟩⟩
theorem lines9_any (s : ByteArray) (w : World) : Calls Tryz.prog 48 #[.string s] w fun e w' => e = .returned (.func (.func 76) #[] #[.pointer (some ⟨w.heap.size, 0, none⟩)]) ∧ w' = w.alloc (.cells #[.string s] 9) := by
  go_enter Tryz.func48, Tryz.ntmps48
  go_wp2
  go_ret
  exact ⟨rfl, rfl⟩
end
section
open Go.ChangeShapes Go.WideShapes Go.ChangeAt Go.RowKit
theorem size5 : (Tryz.prog.info? 5).map (·.size) = some 1 := by kernel_rfl
theorem cells5 : Tryz.prog.cellsOf 5 = 1 := by kernel_rfl
theorem copied (s : ByteArray) (M : Array Value) (hM : M.size = s.size) : (M.toList.take 0 ++ Lib.byteCells s.data.toList ++ M.toList.drop (0 + s.size)).toArray = (Lib.byteCells s.data.toList).toArray := by
  rw [List.take_zero, List.nil_append, List.drop_of_length_le (by rw [Array.length_toList]; omega), List.append_nil]
theorem slite_clone (s : ByteArray) (w : World) (hs : s.size ≤ 281474976710656) :
    Calls Tryz.prog 111 #[.string s] w fun e w' => e = .returned (.string s) ∧ Fresh w w' := by
  by_cases h0 : s.size = 0
  · obtain rfl : s = ⟨#[]⟩ := ByteArray.ext (Array.eq_empty_of_size_eq_zero h0)
    clear h0
    go_enter Tryz.func111, Tryz.ntmps111
    go_wp2
    go_ret
    exact ⟨rfl, Fresh.refl _⟩
  · have hmk := fun W => run_make_row' (P := Tryz.prog) 145 5 (.int .u8 0) 1 Tryz.underlying145 info5 rfl .i64 .i64 s.size (by omega) (by omega) W
    have hMs : (madeCells #[Value.int .u8 0] s.size).size = s.size := by rw [size_madeCells]
    generalize madeCells #[Value.int .u8 0] s.size = M at hmk hMs
    have hcp := Lib.run_copy_row_string (P := Tryz.prog) (w.alloc (.cells M 5)) 145 9 3 5 w.heap.size 0 s.size s.size s M 5 Tryz.underlying145 size5 (heap_alloc_new w _) (Nat.le_refl _) (by omega)
    rw [copied s M hMs] at hcp
    obtain ⟨Y, hY⟩ : ∃ Y, Y = (Lib.byteCells s.data.toList).toArray := ⟨_, rfl⟩
    rw [← hY] at hcp
    have hYs : Y.size = s.size := by rw [hY, List.size_toArray, Lib.byteCells_length, ← Lib.size_eq]
    have hgY : ((w.alloc (.cells M 5)).setRow w.heap.size Y).heap[w.heap.size]? = some (.cells Y 5 (0, 0)) := setRow_heap _ _ M _ 5 (0, 0) (heap_alloc_new w _)
    have hus := Lib.run_unsafeString_row (P := Tryz.prog) ((w.alloc (.cells M 5)).setRow w.heap.size Y) 187 3 9 5 Tryz.underlying187 cells5 w.heap.size Y.size (by unfold World.shape?; rw [hgY]) s.data.toList
      (fun e => h0 (by rw [Lib.size_eq, e]; rfl)) (by rw [← Lib.size_eq]; omega) (by rw [← Lib.size_eq]; omega)
      (fun j x hx => Lib.cells_of_row hgY Y.size j _ (by rw [List.take_of_length_le (by rw [Array.length_toList]; exact Nat.le_refl _), hY]; simp [Lib.byteCells, hx]))
    rw [← Lib.size_eq] at hus
    clear hY hgY
    go_enter Tryz.func111, Tryz.ntmps111
    go_wp2
    go_ret
    have hb2 : Below w.heap.size (w.alloc (.cells M 5)) ((w.alloc (.cells M 5)).setRow w.heap.size Y) := ⟨rfl, rfl, rfl, by simp, fun k hk => setRow_other _ _ _ _ (by omega)⟩
    exact ⟨rfl, Lib.below_freeze (((Below.refl _ w).alloc (Nat.le_refl _) _).trans hb2) (p := ⟨w.heap.size, 0, none⟩) (Nat.le_refl _) _⟩
theorem clone_any (s : ByteArray) (w : World) (hs : s.size ≤ 281474976710656) :
    Calls Tryz.prog 82 #[.string s] w fun e w' => e = .returned (.string s) ∧ Fresh w w' := by
  go_enter Tryz.func82, Tryz.ntmps82
  go_wp2_with fail
  refine (slite_clone _ _ hs).mono ?_
  rintro e w' ⟨rfl, hg⟩
  go_wp2
  go_ret
  exact ⟨rfl, hg⟩
end
section
open Go.ChangeShapes Go.WideShapes Go.ChangeAt Go.RowKit
attribute [local go_sem ↓] Go.wp_at_zero Go.wp_at_succ
variable {w : World}
def Adds (w : World) (B : Nat) (v : Value) (l : List Rw) (v' : Value) (w' : World) : Prop :=
  RBuf 90 w' B v' l ∧ w.grownBy w' v.ownBlock ∧ ∀ g, v'.ownBlock = some g → v.ownBlock = some g ∨ w.heap.size ≤ g
theorem grownBy_trans {a b c : World} {r r' : Option Nat} (h : a.grownBy b r) (k : b.grownBy c r') (hr : ∀ g, r' = some g → r = some g ∨ a.heap.size ≤ g) : a.grownBy c r :=
  ⟨k.os.trans h.os, k.tape.trans h.tape, k.output.trans h.output, Nat.le_trans h.size k.size, fun j hj hne => by
    rw [k.block j (Nat.lt_of_lt_of_le hj h.size) (fun e => by
      rcases hr j e.symm with h1 | h1
      · exact hne h1.symm
      · omega), h.block j hj hne]⟩
theorem Fresh.grownBy {w w' : World} (hf : Fresh w w') (row : Option Nat) : w.grownBy w' row := ⟨hf.os, hf.tape, hf.output, hf.size, fun k hk _ => hf.block k hk⟩
theorem Adds.refl {w : World} {B : Nat} {v : Value} {l : List Rw} (h : RBuf 90 w B v l) : Adds w B v l v w :=
  ⟨h, (Fresh.refl w).grownBy _, fun _ h => .inl h⟩
theorem Adds.more {w w1 w2 : World} {B : Nat} {v v1 v2 : Value} {l l2 : List Rw} (h : Adds w B v l v1 w1) (k : Adds w1 B v1 l2 v2 w2) : Adds w B v l2 v2 w2 := by
  have hs := h.2.1.size
  refine ⟨k.1, grownBy_trans h.2.1 k.2.1 h.2.2, fun g hg => ?_⟩
  rcases k.2.2 g hg with h1 | h1
  · exact h.2.2 g h1
  · exact .inr (by omega)
theorem Adds.fresh {w w1 w2 : World} {B : Nat} {v v1 : Value} {l : List Rw} (h : Adds w B v l v1 w1) (k : Fresh w1 w2) : Adds w B v l v1 w2 :=
  ⟨h.1.fresh k, grownBy_trans h.2.1 (k.grownBy none) (fun g e => by cases e), h.2.2⟩
def RowsAt (n : Nat) (t : List UInt8) (acc out : List Rw) (a : Nat) : Prop := acc ++ rowsS n 0 t = out ++ rowsS n a (t.drop a)
theorem rowsAt_start (n : Nat) (t : List UInt8) (acc : List Rw) : RowsAt n t acc acc (blanks t) := by
  unfold RowsAt
  rw [rowsS_blanks n t 0, Nat.zero_add]
theorem rowsAt_dash {n : Nat} {t : List UInt8} {acc out : List Rw} {a : Nat} (H : RowsAt n t acc out a) (h : a < t.length) (e : dashB (t.drop a) = true) : RowsAt n t acc (out ++ [⟨n, a, true, []⟩]) (a + 1 + blanks (t.drop (a + 1))) := by
  unfold RowsAt at *
  rw [H, rowsS_dash n a t h e, rowsS_blanks n (t.drop (a + 1)) (a + 1), List.drop_drop]
  simp
theorem rowsAt_end {n : Nat} {t : List UInt8} {acc out : List Rw} {a : Nat} (H : RowsAt n t acc out a) (h : t.length ≤ a) : acc ++ rowsS n 0 t = out := by
  unfold RowsAt at *
  rw [H, rowsS_end n a t h]; simp
theorem rowsAt_text {n : Nat} {t : List UInt8} {acc out : List Rw} {a : Nat} (H : RowsAt n t acc out a) (h : a < t.length) (hc : t[a] ≠ 32) (e : dashB (t.drop a) = false) : acc ++ rowsS n 0 t = out ++ [⟨n, a, false, t.drop a⟩] := by
  unfold RowsAt at *
  rw [H, rowsS_text n a t h hc e]
theorem head_drop {l : List UInt8} {a : Nat} (h : a + blanks (l.drop a) < l.length) : l[a + blanks (l.drop a)] ≠ 32 := by
  have := blanks_head (l.drop a) (by rw [List.length_drop]; omega)
  rw [List.drop_drop, List.getElem?_drop, Nat.add_zero, List.getElem?_eq_getElem h] at this
  exact fun e => this (by rw [e])
theorem add_any (n : Nat) (s : ByteArray) (acc : List Rw) (B : Nat) (v : Value) (w : World) (hs : s.size ≤ 1000000) (hacc : acc.length ≤ 1000000000000) (hBw : B ≤ w.heap.size) (hb : RBuf 90 w B v acc) :
    Calls Tryz.prog 51 #[v, .int .i64 (n : Int), .string s] w fun e w' => ∃ v', e = .returned v' ∧ Adds w B v (acc ++ rowsS n 0 (Lib.trimRightB s.data.toList 32)) v' w' := by
  obtain ⟨i0, hi, hz0, hz1, hz2⟩ := info_parts info32
  have HTR := Lib.hid (fun W => trimR_any s W hs)
  obtain ⟨t, ht⟩ : ∃ t, t = Lib.trimRightB s.data.toList 32 := ⟨_, rfl⟩
  have htl : t.length ≤ 1000000 := by
    rw [ht]
    unfold Lib.trimRightB
    rw [List.length_reverse]
    have := (List.dropWhile_suffix (l := s.data.toList.reverse) (fun x => x == (32 : UInt8))).length_le
    simp at this
    simp; omega
  rw [← ht] at HTR ⊢
  have HPB := Lib.hid (fun a W ha => past_any t a W ha htl)
  have HDA := Lib.hid (fun a W => isDash_any (t.drop a) W)
  have HEX : Hid (∀ a, (tx t).extract a (tx t).size = tx (t.drop a)) := fun a => by
    rw [tx_extract, tx_toList, tx_size]
    congr 1
    rw [List.take_of_length_le (by simp)]
  have HSZ := Lib.hid (tx_size t)
  have HTL := Lib.hid htl
  have HB := Lib.hid hb
  have hv := hb
  have HBW := Lib.hid hBw
  have HACC := Lib.hid hacc
  have hP0 := Lib.hid (HPB.out 0 · (Nat.zero_le _))
  have hsz1 : (tx t).size ≤ 1000000 := by rw [HSZ.out]; exact htl
  obtain ⟨S, hS⟩ : ∃ S, S = tx t := ⟨_, rfl⟩
  rw [← hS] at HTR HEX HSZ HPB hsz1 hP0
  clear ht htl hb hBw hacc hv hS
  go_enter Tryz.func51, Tryz.ntmps51
  go_wp2_with (first | (go_at_call 79; refine (HTR.out _).mono ?_; rintro e w' ⟨rfl, rfl⟩) | (go_at_call 80; refine (hP0.out _).mono ?_; rintro e w' ⟨rfl, rfl⟩))
  go_loopw [0, 7] (fun a0 a7 wr => ∃ (a : Nat) (out : List Rw) (v1 : Value), a ≤ S.size ∧ v1 = a0 ∧ a7 = .int .i64 a ∧ Hid (RowsAt n t acc out a) ∧ Hid (∀ h : a < t.length, t[a] ≠ 32) ∧ Hid (out.length ≤ acc.length + a) ∧ Hid (Adds w B v out v1 wr)) (fun _ a7 _ => S.size - (intOf a7).toNat)
  case atStart =>
    have h0 := blanks_le t
    have h1 := HSZ.out
    refine ⟨blanks t, acc, v, by omega, rfl, by simp, rowsAt_start n t acc, fun h => ?_, by simp [Hid], Adds.refl HB.out⟩
    have := head_drop (l := t) (a := 0) (by simpa using h)
    simpa using this
  case round =>
    obtain ⟨a, out, v1, ha, rfl, rfl, HR, HH, HLEN, HA⟩ := hrel
    have q0 := HEX.out a
    have HD := Lib.hid (fun W => HDA.out a W)
    have hle : out.length ≤ 1000001000000 := by have h1 := HLEN.out; have h2 := HACC.out; omega
    have HBW1 : Hid (B ≤ wr.heap.size) := Nat.le_trans HBW.out HA.out.2.1.size
    by_cases hlt : a < S.size
    · have HLT : Hid (a < t.length) := by rw [Hid, ← HSZ.out]; exact hlt
      cases hd : dashB (t.drop a) with
      | true =>
        rw [hd] at HD
        have HN := Lib.hid (rowsAt_dash HR.out HLT.out hd)
        have HP := Lib.hid (fun W => HPB.out (a + 1) W HLT.out)
        have hbl := blanks_le (t.drop (a + 1))
        rw [List.length_drop] at hbl
        have HBL : Hid (a + 1 + blanks (t.drop (a + 1)) ≤ S.size) := by rw [Hid, HSZ.out]; have := HLT.out; omega
        have HNH : Hid (∀ h : a + 1 + blanks (t.drop (a + 1)) < t.length, t[a + 1 + blanks (t.drop (a + 1))] ≠ 32) := fun h => head_drop h
        have HCELL := Lib.hid (rnews 90 wr ⟨n, a, true, []⟩)
        clear hd hbl
        generalize tx (t.drop a) = d at *
        obtain ⟨a2, ha2⟩ : ∃ a2, a2 = a + 1 + blanks (t.drop (a + 1)) := ⟨_, rfl⟩
        rw [← ha2] at HN HP HBL
        have HNH2 : Hid (∀ h : a2 < t.length, t[a2] ≠ 32) := by rw [Hid, ha2]; exact HNH.out
        have HA2 : Hid (a < a2) := by rw [Hid, ha2]; omega
        have HP2 : Hid (∀ W, Calls Tryz.prog 80 #[.string S, .int .i64 ((a : Int) + 1)] W fun e w' => e = .returned (.int .i64 (a2 : Int)) ∧ W = w') := HP.out
        have hal : a ≤ 1000000 := by omega
        have ha2l : a2 ≤ 1000000 := by have := HBL.out; omega
        clear HP
        clear HNH ha2
        go_wp2_with (first | (go_at_call 81; refine (HD.out _).mono ?_; rintro e w' ⟨rfl, rfl⟩) | (at_builtin; refine Hid.out ?_))
        refine Lib.hid ?_
        refine wpList_append_lies _ rfl _ _ 55 rfl B 90 i0 (.agg #[.int .i64 0, .int .i64 0, .bool false, .string ⟨#[]⟩]) 4 40 Tryz.underlying55 hi hz0 hz1 hz2 rfl (by decide) v1 out.length (rcells out) rfl (World.ownsRow.alloc HA.out.1 _) ⟨wr.heap.size, 0, none⟩ 1 1 (rcell ⟨n, a, true, []⟩) rfl rfl HCELL.out (rcell_one _) (by decide) (by unfold maxLen; omega) (by omega) (by rw [World.size_alloc]; have := HBW1.out; omega) (wr.heap.size + 1) (by simp) ?_
        intro g cap w2 hown hgrow hat hlt2
        have HT2 := Lib.hid (RBuf.more hown)
        have HG2 := Lib.hid hgrow
        have HAT := Lib.hid hat
        clear hown hgrow hat hlt2
        have HS1 := Lib.hid (World.size_alloc wr (.cells #[.int .i64 (n : Int), .int .i64 (a : Int), .bool true, .string ⟨#[]⟩] 90))
        have HADDS : Hid (Adds wr B v1 (out ++ [⟨n, a, true, []⟩]) (.slice (some ⟨g, 0, none⟩) (out.length + 1) cap) w2) :=
          ⟨HT2.out, grownBy_trans (World.grownBy_alloc wr _ _) HG2.out (fun g e => .inl e), fun g' e => by
            simp only [Value.ownBlock, Option.some.injEq] at e
            subst e
            rcases HAT.out with h | h
            · exact .inl h
            · exact .inr (by omega)⟩
        have HADDS2 := Lib.hid (HA.out.more HADDS.out)
        clear HT2 HG2 HAT HS1 HADDS
        go_wp2_with (go_at_call 80; refine (HP2.out _).mono ?_; rintro e w' ⟨rfl, rfl⟩)
        go_roundw
        case rel => exact ⟨a2, out ++ [Rw.mk n a true []], _, HBL.out, rfl, rfl, HN.out, HNH2.out, by rw [Hid, List.length_append]; have := HLEN.out; have := HA2.out; simp; omega, HADDS2.out⟩
        case measure => simp [intOf]; have := HA2.out; have := HBL.out; omega
      | false =>
        rw [hd] at HD
        have HN := Lib.hid (rowsAt_text HR.out HLT.out (HH.out HLT.out) hd)
        have HCL := Lib.hid (fun W => clone_any (tx (t.drop a)) W (by rw [tx_size, List.length_drop]; have := HTL.out; omega))
        have e0 : ((a : Int) == (S.size : Int)) = false := by rw [beq_eq_false_iff_ne]; omega
        clear hd
        obtain ⟨x, hx⟩ : ∃ x, x = t.drop a := ⟨_, rfl⟩
        rw [← hx] at HD HN HCL q0
        clear hx
        go_wp2_with (go_at_call 81; refine (HD.out _).mono ?_; rintro e w' ⟨rfl, rfl⟩)
        all_goals try (exfalso; omega)
        refine (HCL.out _).mono ?_
        rintro e w1 ⟨rfl, hf⟩
        have HF := Lib.hid hf
        have HA1 := Lib.hid (HA.out.fresh hf)
        have HBW2 : Hid (B ≤ w1.heap.size) := Nat.le_trans HBW.out HA1.out.2.1.size
        have HCELL := Lib.hid (rnews 90 w1 ⟨n, a, false, x⟩)
        clear hf
        go_wp2_with (at_builtin; refine Hid.out ?_)
        refine Lib.hid ?_
        refine wpList_append_lies _ rfl _ _ 55 rfl B 90 i0 (.agg #[.int .i64 0, .int .i64 0, .bool false, .string ⟨#[]⟩]) 4 40 Tryz.underlying55 hi hz0 hz1 hz2 rfl (by decide) v1 out.length (rcells out) rfl (World.ownsRow.alloc HA1.out.1 _) ⟨w1.heap.size, 0, none⟩ 1 1 (rcell ⟨n, a, false, x⟩) rfl rfl HCELL.out (rcell_one _) (by decide) (by unfold maxLen; omega) (by omega) (by rw [World.size_alloc]; have := HBW2.out; omega) (w1.heap.size + 1) (by simp) ?_
        intro g cap w2 hown hgrow hat hlt2
        have HT2 := Lib.hid (RBuf.more hown)
        have HADDS : Hid (Adds w1 B v1 (out ++ [⟨n, a, false, x⟩]) (.slice (some ⟨g, 0, none⟩) (out.length + 1) cap) w2) :=
          ⟨HT2.out, grownBy_trans (World.grownBy_alloc w1 _ _) hgrow (fun g e => .inl e), fun g' e => by
            simp only [Value.ownBlock, Option.some.injEq] at e
            subst e
            rcases hat with h | h
            · exact .inl h
            · exact .inr (by omega)⟩
        have HADDS2 := Lib.hid (HA1.out.more HADDS.out)
        clear hown hgrow hat hlt2 HT2 HADDS
        go_wp2
        go_ret
        exact ⟨_, rfl, by rw [HN.out]; exact HADDS2.out⟩
    · obtain rfl : a = S.size := by omega
      have HN := Lib.hid (rowsAt_end HR.out (by rw [HSZ.out]; exact Nat.le_refl _))
      go_wp2
      all_goals try (exfalso; omega)
      go_ret
      exact ⟨v1, rfl, by rw [HN.out]; exact HA.out⟩
theorem may_any (s : ByteArray) (w : World) (hs : s.size ≤ 1000000) (hT : Tabs w) : Calls Tryz.prog 49 #[.string s] w fun e w' => e = .returned (.bool (!badL Lib.validD s.data.toList)) ∧ Fresh w w' := by
  have HU := Lib.hid (valid19_any s w hs hT)
  have hll : s.data.toList.length = s.size := by simp
  have HLL := Lib.hid hll
  clear hll hT
  go_enter Tryz.func49, Tryz.ntmps49
  go_wp2
  go_loop [6] (fun a6 => ∃ k : Nat, k ≤ s.size ∧ a6 = .int .i64 k ∧ Hid (lowB s.data.toList = lowB (s.data.toList.drop k))) (fun a6 => s.size - (intOf a6).toNat)
  case atStart => exact ⟨0, by omega, rfl, rfl⟩
  case round =>
    obtain ⟨i, hi, rfl, HI⟩ := hrel
    by_cases hlt : i < s.size
    · have HL' : Hid (i < s.data.toList.length) := by rw [Hid, HLL.out]; exact hlt
      have HB : Hid (s.data.toList[i]'HL'.out = s[i]'hlt) := rfl
      by_cases c32 : s[i].toNat < 32
      · have x32 : (s[i].toNat : Int) < 32 := by omega
        have HN := Lib.hid (badL_low Lib.validD (lowB_hit _ i HL'.out (by rw [HB.out]; exact c32) HI.out))
        clear c32
        go_wp2
        go_ret
        exact ⟨by rw [HN.out]; rfl, Fresh.refl _⟩
      · have x32 : ¬ (s[i].toNat : Int) < 32 := by omega
        have HN := Lib.hid (lowB_step _ i HL'.out (by rw [HB.out]; omega) HI.out)
        clear c32
        go_wp2
        go_round
        case rel => exact ⟨i + 1, by omega, by simp, HN.out⟩
        case measure => simp [intOf]; omega
    · have HLO := Lib.hid (badL_of Lib.validD (lowB_end _ i (by rw [HLL.out]; omega) HI.out))
      have hge : ¬ (i : Int) < (s.size : Int) := by omega
      go_wp2_with (fail)
      refine HU.out.mono ?_
      rintro e w' ⟨rfl, hf⟩
      have HF := Lib.hid hf
      clear hf
      go_wp2
      go_ret
      exact ⟨by rw [HLO.out, Bool.not_not]; rfl, HF.out⟩
def contRes (V : List UInt8 → Bool) (s : ByteArray) : Ending :=
  if badL V s.data.toList = true then .returned (.tuple #[.string ⟨#[]⟩, .int .i64 10]) else match rem s.data.toList with
    | some k => .returned (.tuple #[.string (s.extract 0 k), .int .i64 0])
    | none => .returned (.tuple #[.string ⟨#[]⟩, .int .i64 11])
theorem contRes_bad {V : List UInt8 → Bool} {s : ByteArray} (h : badL V s.data.toList = true) : contRes V s = .returned (.tuple #[.string ⟨#[]⟩, .int .i64 10]) := by
  rw [contRes, if_pos h]
theorem contRes_some {V : List UInt8 → Bool} {s : ByteArray} {k : Nat} (h : badL V s.data.toList = false) (hr : rem s.data.toList = some k) : contRes V s = .returned (.tuple #[.string (s.extract 0 k), .int .i64 0]) := by
  rw [contRes, if_neg (by rw [h]; simp), hr]
theorem contRes_none {V : List UInt8 → Bool} {s : ByteArray} (h : badL V s.data.toList = false) (hr : rem s.data.toList = none) : contRes V s = .returned (.tuple #[.string ⟨#[]⟩, .int .i64 11]) := by
  rw [contRes, if_neg (by rw [h]; simp), hr]
theorem content_of (V : List UInt8 → Bool) (s : ByteArray) (w : World) (hs : s.size ≤ 1000000) (hU : ∀ W, Calls Tryz.prog 87 #[.string s] W fun e w' => e = .returned (.bool (V s.data.toList)) ∧ W = w') :
    Calls Tryz.prog 57 #[.string s] w fun e w' => e = contRes V s ∧ w = w' := by
  have hll : s.data.toList.length = s.size := by simp
  have HLL := Lib.hid hll
  have HU := Lib.hid hU
  clear hll hU
  go_enter Tryz.func57, Tryz.ntmps57
  go_wp2
  go_loop [4] (fun a4 => ∃ k : Nat, k ≤ s.size ∧ a4 = .int .i64 k ∧ Hid (lowB s.data.toList = lowB (s.data.toList.drop k))) (fun a4 => s.size - (intOf a4).toNat)
  case atStart => exact ⟨0, by omega, rfl, rfl⟩
  case round =>
    obtain ⟨i, hi, rfl, HI⟩ := hrel
    by_cases hlt : i < s.size
    · have HL' : Hid (i < s.data.toList.length) := by rw [Hid, HLL.out]; exact hlt
      have HB : Hid (s.data.toList[i]'HL'.out = s[i]'hlt) := rfl
      by_cases c32 : s[i].toNat < 32
      · have x32 : (s[i].toNat : Int) < 32 := by omega
        have HN := Lib.hid (contRes_bad (V := V) (badL_low V (lowB_hit _ i HL'.out (by rw [HB.out]; exact c32) HI.out)))
        clear c32
        go_wp2
        go_ret2
        exact ⟨HN.out.symm, rfl⟩
      · have x32 : ¬ (s[i].toNat : Int) < 32 := by omega
        have HN := Lib.hid (lowB_step _ i HL'.out (by rw [HB.out]; omega) HI.out)
        clear c32
        go_wp2
        go_round
        case rel => exact ⟨i + 1, by omega, by simp, HN.out⟩
        case measure => simp [intOf]; omega
    · have HLO := Lib.hid (badL_of V (lowB_end _ i (by rw [HLL.out]; omega) HI.out))
      cases hv : V s.data.toList with
      | false =>
        rw [hv] at HU HLO
        have HN := Lib.hid (contRes_bad (V := V) (by rw [HLO.out]; rfl))
        clear hv
        go_wp2_with (go_at_call 87; refine (HU.out _).mono ?_; rintro e w' ⟨rfl, rfl⟩)
        go_ret2
        exact ⟨HN.out.symm, rfl⟩
      | true =>
        rw [hv] at HU HLO
        have HGOOD : Hid (badL V s.data.toList = false) := by rw [Hid, HLO.out]; rfl
        clear hv
        go_wp2_with (go_at_call 87; refine (HU.out _).mono ?_; rintro e w' ⟨rfl, rfl⟩)
        go_loop [5] (fun a5 => ∃ k : Nat, k ≤ s.size ∧ a5 = .int .i64 k ∧ Hid (RemAt s.data.toList false false k)) (fun a5 => s.size - (intOf a5).toNat)
        case atStart => exact ⟨0, by omega, rfl, remAt_zero _⟩
        case round =>
          obtain ⟨m, hm, rfl, HM⟩ := hrel
          by_cases hlm : m < s.size
          · have HL2 : Hid (m < s.data.toList.length) := by rw [Hid, HLL.out]; exact hlm
            have HB2 : Hid (s.data.toList[m]'HL2.out = s[m]'hlm) := rfl
            by_cases c34 : s[m] = 34
            · have e35 : ((s[m].toNat : Int) == 35) = false := neB (n := 35) (by rw [c34]; decide)
              have x35 : (s[m].toNat : Int) ≠ 35 := by simpa using e35
              have e34 : ((s[m].toNat : Int) == 34) = true := eqB (n := 34) c34 (by omega)
              have x34 : ((s[m].toNat : Int) != 34) = false := by simpa using e34
              have HQ := Lib.hid (remAt_quote HL2.out (HB2.out.trans c34) HM.out)
              clear c34
              go_wp2
              all_goals try (exfalso; omega)
              go_loop [6] (fun a6 => ∃ k : Nat, m < k ∧ k ≤ s.size + 1 ∧ a6 = .int .i64 k ∧ Hid (RemAt s.data.toList true false k)) (fun a6 => s.size + 1 - (intOf a6).toNat)
              case atStart => exact ⟨m + 1, by omega, by omega, by simp, HQ.out⟩
              case round =>
                obtain ⟨k, hmk, hk, rfl, HK⟩ := hrel
                by_cases hlk : k < s.size
                · have HL3 : Hid (k < s.data.toList.length) := by rw [Hid, HLL.out]; exact hlk
                  have HB3 : Hid (s.data.toList[k]'HL3.out = s[k]'hlk) := rfl
                  by_cases d34 : s[k] = 34
                  · have f34 : ((s[k].toNat : Int) == 34) = true := eqB (n := 34) d34 (by omega)
                    have y34 : ((s[k].toNat : Int) != 34) = false := by simpa using f34
                    have z34 : (s[k].toNat : Int) = 34 := by simpa using f34
                    have HN := Lib.hid (remAt_quote HL3.out (HB3.out.trans d34) HK.out)
                    have hge : ¬ (s.size : Int) ≤ (k : Int) := by omega
                    clear d34
                    go_wp2
                    all_goals try (exfalso; omega)
                    go_round
                    case rel => exact ⟨k + 1, by omega, by simp, HN.out⟩
                    case measure => simp [intOf]; omega
                  · have f34 : ((s[k].toNat : Int) == 34) = false := neB (n := 34) d34
                    have y34 : ((s[k].toNat : Int) != 34) = true := by simpa using f34
                    have z34 : (s[k].toNat : Int) ≠ 34 := by simpa using f34
                    by_cases d92 : s[k] = 92
                    · have f92 : ((s[k].toNat : Int) == 92) = true := eqB (n := 92) d92 (by omega)
                      have HN := Lib.hid (remAt_two HL3.out (HB3.out.trans d92) HK.out)
                      clear d34 d92
                      go_wp2
                      all_goals try (exfalso; omega)
                      go_round
                      case rel => exact ⟨k + 2, by omega, by omega, by simp; omega, HN.out⟩
                      case measure => simp [intOf]; omega
                    · have f92 : ((s[k].toNat : Int) == 92) = false := neB (n := 92) d92
                      have HN := Lib.hid (remAt_other HL3.out (by rw [HB3.out]; exact d92) (by rw [HB3.out]; exact d34) (by simp) HK.out)
                      clear d34 d92
                      go_wp2
                      all_goals try (exfalso; omega)
                      go_round
                      case rel => exact ⟨k + 1, by omega, by omega, by simp, HN.out⟩
                      case measure => simp [intOf]; omega
                · have HN := Lib.hid (contRes_none (V := V) HGOOD.out (remAt_over (by rw [HLL.out]; omega) HK.out))
                  have hge : (s.size : Int) ≤ (k : Int) := by omega
                  go_wp2
                  all_goals try (exfalso; omega)
                  go_ret2
                  exact ⟨HN.out.symm, rfl⟩
            · have e34 : ((s[m].toNat : Int) == 34) = false := neB (n := 34) c34
              have x34 : ((s[m].toNat : Int) != 34) = true := by simpa using e34
              by_cases c92 : s[m] = 92
              · have e35 : ((s[m].toNat : Int) == 35) = false := neB (n := 35) (by rw [c92]; decide)
                have x35 : (s[m].toNat : Int) ≠ 35 := by simpa using e35
                have HN := Lib.hid (remAt_back HL2.out (HB2.out.trans c92) HM.out)
                clear c34 c92
                go_wp2
                all_goals try (exfalso; omega)
                go_round
                case rel => exact ⟨m + 1, by omega, by simp, HN.out⟩
                case measure => simp [intOf]; omega
              · by_cases c35 : s[m] = 35
                · have e35 : ((s[m].toNat : Int) == 35) = true := eqB (n := 35) c35 (by omega)
                  have x35 : (s[m].toNat : Int) = 35 := by simpa using e35
                  rcases m with _ | j
                  · have HN := Lib.hid (contRes_some (V := V) HGOOD.out (remAt_hash HL2.out (HB2.out.trans c35) rfl HM.out))
                    clear c34 c92 c35
                    go_wp2
                    all_goals try (exfalso; omega)
                    go_ret2
                    exact ⟨by rw [HN.out]; simp, rfl⟩
                  · have hj : j < s.size := by omega
                    have HBJ : Hid (blank s.data.toList (j + 1) = (s[j] == 32)) := blank_succ _ j (by rw [HLL.out]; exact hj)
                    by_cases c32 : s[j] = 32
                    · have e32 : ((s[j].toNat : Int) == 32) = true := eqB (n := 32) c32 (by omega)
                      have x32 : (s[j].toNat : Int) = 32 := by simpa using e32
                      have HN := Lib.hid (contRes_some (V := V) HGOOD.out (remAt_hash HL2.out (HB2.out.trans c35) (by rw [HBJ.out, c32]; rfl) HM.out))
                      clear c34 c92 c35 c32
                      go_wp2
                      all_goals try (exfalso; omega)
                      go_ret2
                      exact ⟨by rw [HN.out]; simp, rfl⟩
                    · have e32 : ((s[j].toNat : Int) == 32) = false := neB (n := 32) c32
                      have x32 : (s[j].toNat : Int) ≠ 32 := by simpa using e32
                      have HN := Lib.hid (remAt_other HL2.out (by rw [HB2.out]; exact c92) (by rw [HB2.out]; exact c34) (by rw [HBJ.out]; simp [c32]) HM.out)
                      clear c34 c92 c35 c32
                      go_wp2
                      all_goals try (exfalso; omega)
                      go_round
                      case rel => exact ⟨j + 1 + 1, by omega, by simp, HN.out⟩
                      case measure => simp [intOf]; omega
                · have e35 : ((s[m].toNat : Int) == 35) = false := neB (n := 35) c35
                  have x35 : (s[m].toNat : Int) ≠ 35 := by simpa using e35
                  have HN := Lib.hid (remAt_other HL2.out (by rw [HB2.out]; exact c92) (by rw [HB2.out]; exact c34) (fun h => c35 (HB2.out.symm.trans h.1)) HM.out)
                  clear c34 c92 c35
                  go_wp2
                  all_goals try (exfalso; omega)
                  go_round
                  case rel => exact ⟨m + 1, by omega, by simp, HN.out⟩
                  case measure => simp [intOf]; omega
          · obtain rfl : m = s.size := by omega
            have HN := Lib.hid (contRes_some (V := V) HGOOD.out (remAt_end (by rw [HLL.out]; omega) HLL.out.symm HM.out))
            go_wp2
            go_ret2
            refine ⟨?_, rfl⟩
            rw [HN.out]
            show _ = Ending.returned (.tuple #[.string (s.extract 0 s.data.toList.length), .int .i64 0])
            rw [HLL.out, extract_all]
            rfl
end
end Go.Proofs.YtcljplkkgpjhlaaGreatDoorR
