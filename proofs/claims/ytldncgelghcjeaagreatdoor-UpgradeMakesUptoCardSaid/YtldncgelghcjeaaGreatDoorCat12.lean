/-
  strings.Cut at a point; a range over what the points of a text part.
  What dns.Name returns, for every text.
  What is wrong with a pod, by package spec.
  What is wrong with a state of version 3, by package ckthree.
-/
import Derived.Test.YtldncgelghcjeaaGreatDoorCat01
import Derived.BigQuiet
import Derived.Shelf.RegionOpen
import Derived.RangeFuncNested
import Derived.RangeFuncBound
import Derived.RangeFuncCalls
import Derived.RangeFuncLeaves
import Derived.RangeFuncBox
import Derived.OwnWalkIn
import Derived.TacticsInMore
import Derived.LoopNIn
import Derived.LoopIn
import Derived.Shelf.Strings.Search2
import Derived.Test.YtldncgelghcjeaaGreatDoorCat10
import Derived.RangeFuncWrites
import Derived.Test.YtldncgelghcjeaaGreatDoorCat11
import Derived.Test.YtldncgelghcjeaaGreatDoorCat06
import Derived.Test.YtldncgelghcjeaaGreatDoorCat04
set_option linter.unusedSimpArgs false
set_option linter.unusedVariables false
namespace Go.Proofs.YtldncgelghcjeaaGreatDoor
open Go.ChangeShapes Go.WideShapes Go.ChangeAt Go.RowKit Go.Shelf
attribute [local go_sem] Oper.semAt_some
variable {w : World}

/-- How long a text is; nothing else has a length. -/
def strSize : Value → Nat
  | .string t => t.size
  | _ => 0
theorem strSize_string (t : ByteArray) : strSize (.string t) = t.size := rfl
theorem index1_any (l : List UInt8) (w : World) : Calls Tryz.prog 194 #[.string (tx l), .string ⟨#[46]⟩] w fun e w' => e = .returned (.int .i64 (Lib.indexByte l 46)) ∧ w = w' := by
  refine (Any.stringslite_Index_one Tryz.laysSub (tx l) 46 w).mono ?_
  rintro e w' ⟨h1, h2⟩
  rw [tx_toList] at h1
  exact ⟨h1, h2.symm⟩
/-- The first line, what is behind it, and whether there was a line feed. -/
def cutF (l : List UInt8) : List UInt8 × List UInt8 × Bool := if Lib.indexByte l 46 = -1 then (l, [], false) else (l.take (Lib.indexByte l 46).toNat, l.drop ((Lib.indexByte l 46).toNat + 1), true)
theorem cutS_any (l : List UInt8) (w : World) (hs : l.length ≤ 1000000) : Calls Tryz.prog 183 #[.string (tx l), .string ⟨#[46]⟩] w fun e w' => e = .returned (.tuple #[.string (tx (cutF l).1), .string (tx (cutF l).2.1), .bool (cutF l).2.2]) ∧ Fresh w w' := by
  have HI := Lib.hid (fun W => index1_any l W)
  rcases indexByte_cases l 46 with h | ⟨k, h⟩
  · have HC : Hid (cutF l = (l, [], false)) := by rw [Hid, cutF, if_pos h]
    rw [h] at HI
    clear h
    rw [HC.out]
    dsimp only
    clear HC
    generalize tx l = s at *
    go_enter Tryz.func183, Tryz.ntmps183
    go_wp2_with (go_at_call 194; refine (HI.out _).mono ?_; rintro e w' ⟨rfl, rfl⟩)
    go_ret3
    exact ⟨rfl, Fresh.refl _⟩
  · have HC : Hid (cutF l = (l.take k, l.drop (k + 1), true)) := by rw [Hid, cutF, if_neg (by omega), h]; simp
    have hk := (indexByte_some l 46 k h).1
    rw [h] at HI
    clear h
    rw [HC.out]
    dsimp only
    clear HC
    have HSZ := Lib.hid (tx_size l)
    have q1 : (tx l).extract 0 k = tx (l.take k) := by rw [tx_extract, tx_toList]; simp
    have q2 : (tx l).extract (k + 1) (tx l).size = tx (l.drop (k + 1)) := by
      rw [tx_extract, tx_toList, tx_size]
      congr 1
      rw [List.take_of_length_le (by simp)]
    have hks : k < (tx l).size := by rw [HSZ.out]; exact hk
    have hsz : (tx l).size ≤ 1000000 := by rw [HSZ.out]; exact hs
    generalize tx (l.take k) = r1 at *
    generalize tx (l.drop (k + 1)) = r2 at *
    generalize tx l = s at *
    clear HSZ hk
    have c1 : (0 : Int) ≤ ↑k := by omega
    have c2 : (↑k : Int) ≤ ↑s.size := by omega
    have c3 : (0 : Int) ≤ ↑k + 1 := by omega
    have c4 : (↑k + 1 : Int) ≤ ↑s.size := by omega
    go_enter Tryz.func183, Tryz.ntmps183
    go_wp2_with (go_at_call 194; refine (HI.out _).mono ?_; rintro e w' ⟨rfl, rfl⟩)
    go_region
    go_wp2
    go_ret3
    exact ⟨rfl, Fresh.drew (Fresh.refl _)⟩
theorem cut_any (l : List UInt8) (w : World) (hs : l.length ≤ 1000000) : Calls Tryz.prog 172 #[.string (tx l), .string ⟨#[46]⟩] w fun e w' => e = .returned (.tuple #[.string (tx (cutF l).1), .string (tx (cutF l).2.1), .bool (cutF l).2.2]) ∧ Fresh w w' := by
  have HI := Lib.hid (fun W => cutS_any l W hs)
  generalize cutF l = c at *
  obtain ⟨a, b, d⟩ := c
  dsimp only at *
  generalize tx l = s at *
  generalize tx a = r1 at *
  generalize tx b = r2 at *
  go_enter Tryz.func172, Tryz.ntmps172
  go_wp2_with fail
  refine (HI.out _).mono ?_
  rintro e w' ⟨rfl, hf⟩
  have HF := Lib.hid hf
  clear hf
  go_wp2
  go_ret3
  exact ⟨rfl, HF.out⟩
theorem lns_cut_no (l : List UInt8) (h : (cutF l).2.2 = false) : lnsA [] l = [(cutF l).1] := by
  unfold cutF at *
  by_cases hx : Lib.indexByte l 46 = -1
  · rw [if_pos hx]
    exact lnsA_none l [] (indexByte_none l 46 hx)
  · rw [if_neg hx] at h
    cases h
theorem lns_cut_yes (l : List UInt8) (h : (cutF l).2.2 = true) : lnsA [] l = (cutF l).1 :: lnsA [] (cutF l).2.1 ∧ (cutF l).2.1.length < l.length := by
  unfold cutF at *
  by_cases hx : Lib.indexByte l 46 = -1
  · rw [if_pos hx] at h
    cases h
  · rw [if_neg hx]
    rcases indexByte_cases l 46 with h1 | ⟨k, h1⟩
    · exact absurd h1 hx
    · rw [h1, Int.toNat_natCast]
      obtain ⟨h2, h3, h4⟩ := indexByte_some l 46 k h1
      refine ⟨?_, by simp; omega⟩
      conv => lhs; rw [h3]
      rw [lnsA_cut _ _ _ h4]
      simp
def clip (l : List UInt8) : List UInt8 := l.take 1000000
theorem clip_len (l : List UInt8) : (clip l).length ≤ 1000000 := by simp [clip]; omega
theorem clip_self {l : List UInt8} (h : l.length ≤ 1000000) : clip l = l := List.take_of_length_le h
/-- A part as it is handed over. -/
def encL (x : List UInt8) : Array Value := #[.string (tx (clip x))]
theorem cutF_len (l : List UInt8) : (cutF l).1.length ≤ l.length := by
  unfold cutF
  split
  · exact Nat.le_refl _
  · simp; omega
theorem cutF_len2 (l : List UInt8) : (cutF l).2.1.length ≤ l.length := by
  unfold cutF
  split
  · simp
  · simp
set_option maxRecDepth 100000 in
set_option maxHeartbeats 2000000 in
theorem iter_stops (l : List UInt8) (Bn : Nat) (w : World) (n : Nat) (hn : 2 ≤ n) (hs : l.length ≤ 1000000) (hBn : Bn < w.heap.size) (hc : w.cell? ⟨Bn, 0, none⟩ = some (.string (tx l))) :
    SeqStopsK Fence.wide n Tryz.prog 171 #[.pointer (some ⟨Bn, 0, none⟩)] encL (fun _ _ => True) (fun xs => xs = lnsA [] l) (fun pre => pre <+: lnsA [] l) (lnsA [] l).length w := fun y J Jx W hW hJ _ hY h0 => by
  have hc' : W.cell? ⟨Bn, 0, none⟩ = some (.string (tx l)) := (hW.cell (p := ⟨Bn, 0, none⟩) hBn).trans hc
  dsimp only
  have hln := lnsA_len [] l
  obtain ⟨full, hfull⟩ : ∃ full, full = lnsA [] l := ⟨_, rfl⟩
  rw [← hfull] at hY hln
  rw [← hfull]
  have HFULL := Lib.hid hfull
  have HLN : Hid (full.length ≤ 1000001) := by rw [Hid]; omega
  have HY := Lib.hid hY
  have HJ := Lib.hid hJ
  have H0 := Lib.hid h0
  clear hfull hln hY hJ h0 hc hW
  refine callsIn_of_wp Tryz.func171 rfl trivial ?_ rfl
  simp only [Tryz.ntmps171, List.size_toArray, List.length_cons, List.length_nil, Nat.reduceAdd, Nat.reduceSub, Array.replicate_succ, Array.replicate_zero, List.push_toArray, List.append_toArray, List.nil_append, List.cons_append]
  gi_wp2
  gi_loopw [3, 4] (fun a3 a4 wr => ∃ (pre : List (List UInt8)) (r : List UInt8) (more : Bool), a3 = .string (tx r) ∧ a4 = .bool more ∧ Hid (J pre wr) ∧ Hid (r.length ≤ 1000000) ∧ Hid (more = true → full = pre ++ lnsA [] r) ∧ Hid (more = false → full = pre))
    (fun a3 a4 _ => match a4 with | .bool true => strSize a3 + 1 | _ => 0)
  case atStart => exact ⟨[], l, true, rfl, rfl, H0.out, hs, fun _ => HFULL.out, fun h => by cases h⟩
  case round =>
    obtain ⟨pre, r, more, rfl, rfl, HJS, HR, HT, HF⟩ := hrel
    cases more with
    | false =>
      gi_wp2
      go_end0
      exact ⟨⟨_, rfl⟩, .inl (by rw [HF.out (by simp)]; exact HJS.out)⟩
    | true =>
      have HCUT := Lib.hid (cut_any r wr HR.out)
      have HNO := Lib.hid (lns_cut_no r)
      have HYES := Lib.hid (lns_cut_yes r)
      have hc1 := cutF_len r
      have hc2 := cutF_len2 r
      generalize cutF r = c at *
      obtain ⟨c1, c2, m⟩ := c
      dsimp only at *
      have HC1 : Hid (clip c1 = c1) := clip_self (by have := HR.out; omega)
      have HC2 : Hid (c2.length ≤ 1000000) := by have := HR.out; rw [Hid]; omega
      clear hc1 hc2
      have HSZ := Lib.hid (tx_size r)
      gi_wp2_with (fail)
      refine ⟨trivial, fun _ => by omega, ?_⟩
      refine (callsIn_wide.2 HCUT.out).mono ?_
      rintro e W2 ⟨rfl, hf⟩
      have HJ2 := Lib.hid (HJ.out pre wr W2 none HJS.out ⟨hf.os, hf.tape, hf.output, hf.size, fun k hk _ => hf.block k hk⟩ (fun r e => by cases e))
      clear hf
      have hnum : full = pre ++ c1 :: (if m = true then lnsA [] c2 else []) := by
        rw [HT.out (by simp)]
        cases m with
        | false => rw [HNO.out rfl]; rfl
        | true => rw [(HYES.out rfl).1]; rfl
      have hlt : pre.length < full.length := by rw [hnum]; simp
      obtain ⟨fn, tmps, assign, body, hy, hR⟩ := HY.out pre c1 W2 HJ2.out hlt
      dsimp only [encL] at hy
      rw [HC1.out] at hy
      have HNUM := Lib.hid hnum
      have HRR := Lib.hid hR
      clear hnum hlt hR
      gi_wp2_with (fail)
      refine ⟨fun _ => by omega, ?_⟩
      refine HRR.out.mono ?_
      clear HRR hy
      rintro e W3 (⟨rfl, hJ3, _⟩ | ⟨rfl, hJx3⟩)
      · have HJ3 := Lib.hid hJ3
        clear hJ3
        gi_wp2
        go_roundw
        case rel =>
          refine ⟨pre ++ [c1], c2, m, rfl, rfl, HJ3.out, HC2.out, ?_, ?_⟩
          · intro h
            rw [HNUM.out, if_pos h]; simp
          · intro h
            rw [HNUM.out, if_neg (by rw [h]; simp)]
        case measure =>
          cases m with
          | false => simp
          | true =>
            have := (HYES.out rfl).2
            simp [strSize_string, tx_size]; omega
      · have HJ3 := Lib.hid hJx3
        clear hJx3
        gi_wp2
        refine bodyPost_ret (results_none rfl _ _ _) rfl ?_
        exact ⟨⟨_, rfl⟩, .inr ⟨pre ++ [c1], ⟨if m = true then lnsA [] c2 else [], by rw [HNUM.out]; simp⟩, HJ3.out⟩⟩
theorem labels_any (s : ByteArray) (w : World) : Calls Tryz.prog 152 #[.string s] w fun e w' => e = .returned (.func (.func 171) #[] #[.pointer (some ⟨w.heap.size, 0, none⟩)]) ∧ w' = w.alloc (.cells #[.string s] 9) := by
  go_enter Tryz.func152, Tryz.ntmps152
  go_wp2
  go_ret
  exact ⟨rfl, rfl⟩
end Go.Proofs.YtldncgelghcjeaaGreatDoor
namespace Go.Proofs.YtldncgelghcjeaaGreatDoor
open Go.ChangeShapes Go.WideShapes Go.ChangeAt Go.RowKit Go.Shelf
attribute [local go_sem] Oper.semAt_some
variable {w : World}

theorem box_own {A A' : World} {B0 : Nat} {row : Option Nat} {b t : Nat} {v : Value} (h : Boxed A b t v) (hg : A.grownBy A' row) (hr : ∀ r, row = some r → B0 ≤ r ∧ ∃ o : Obj, A.heap[r]? = some o ∧ o.isCells = false) : Boxed A' b t v :=
  h.kept hg (fun e => by
    obtain ⟨_, o, ho, hc⟩ := hr b e.symm
    rw [show A.heap[b]? = _ from h] at ho; cases ho; cases hc)
theorem fresh_own {w A A' : World} {B0 : Nat} {row : Option Nat} (h : Fresh w A) (hB : w.heap.size ≤ B0) (hg : A.grownBy A' row) (hr : ∀ r, row = some r → B0 ≤ r ∧ ∃ o : Obj, A.heap[r]? = some o ∧ o.isCells = false) : Fresh w A' :=
  h.grown hg (fun g e => by have := (hr g e).1; omega)
theorem name_split (l : List UInt8) (h1 : 1 ≤ l.length) (h2 : l.length ≤ 253) : nameB l = (lnsA [] l).all labB := by
  unfold nameB
  rw [decide_eq_true h1, decide_eq_true h2]; rfl
theorem clip_of_mem {l x : List UInt8} (h2 : l.length ≤ 253) (h : x ∈ lnsA [] l) : clip x = x := clip_self (by have := lnsA_mem l [] x h; simp at this; omega)
set_option maxRecDepth 100000 in
set_option maxHeartbeats 2000000 in
theorem name_yes (l : List UInt8) (w : World) (h1 : 1 ≤ l.length) (h2 : l.length ≤ 253) : Calls Tryz.prog 122 #[.string (tx l)] w fun e w' => e = .returned (.bool (nameB l)) ∧ Fresh w w' := by
  have hsz := tx_size l
  have HF : Hid (∀ W, Calls Tryz.prog 149 #[.string (tx l), .int .i64 253] W fun e w' => e = .returned (.bool true) ∧ W = w') := fun W => by
    have := fits_any (tx l) 253 W (by unfold maxLen; omega)
    rw [hsz, decide_eq_true h1, decide_eq_true h2] at this
    exact this
  have HNB := Lib.hid (name_split l h1 h2)
  have HCM := Lib.hid (fun x => @clip_of_mem l x h2)
  refine (callsIn_wide (n := 10)).1 ?_
  refine callsIn_of_wp_marks Tryz.func122 rfl trivial ?_ rfl
  simp only [Tryz.ntmps122, List.size_toArray, List.length_cons, List.length_nil, Nat.reduceAdd, Nat.reduceSub, Array.replicate_succ, Array.replicate_zero, List.push_toArray, List.append_toArray, List.nil_append, List.cons_append]
  gi_wp2_with (fail)
  refine ⟨trivial, ?_⟩
  refine (callsIn_wide.2 (HF.out _)).mono ?_
  rintro e w1 ⟨rfl, rfl⟩
  gi_wp2_with (fail)
  refine ⟨trivial, ?_⟩
  refine (callsIn_wide.2 (labels_any _ _)).mono ?_
  rintro e w1 ⟨rfl, rfl⟩
  gi_wp2
  obtain ⟨W0, hW0⟩ : ∃ W0, W0 = ((w.alloc (Obj.cells #[Value.bool false] 4)).alloc (Obj.cells #[Value.string (tx l)] 9)) := ⟨_, rfl⟩
  rw [← hW0]
  have b0 : Boxed W0 w.heap.size 4 (.bool false) := by
    rw [hW0]
    exact (Boxed.new w 4 _).alloc _
  have b1 : Boxed W0 (w.heap.size + 1) 9 (.string (tx l)) := by
    rw [hW0]
    have := Boxed.new (w.alloc (Obj.cells #[Value.bool false] 4)) 9 (.string (tx l))
    rw [World.size_alloc] at this
    exact this
  have hF0 : Fresh w W0 := by
    rw [hW0]
    exact ((Fresh.refl w).alloc _).alloc _
  have hS0 : W0.heap.size = w.heap.size + 2 := by
    rw [hW0]; simp
  clear hW0
  have hnl := lnsA_len [] l
  refine wpIn_rangeFunc_ownG rfl (by omega) (gf := 171) (lb := #[.pointer (some ⟨w.heap.size + 1, 0, none⟩)]) rfl trivial (enters_of Tryz.func171 (by kernel_rfl) rfl)
    (iter_stops l (w.heap.size + 1) W0 9 (by omega) (by omega) (by omega) b1.cell) (fun _ _ => trivial) (fun _ _ _ _ _ _ _ _ => trivial) (Below.refl _ _) (fun _ => rfl)
    (fun pre W => Boxed W w.heap.size 4 (.bool false) ∧ (∀ y ∈ pre, labB (clip y) = true) ∧ Fresh w W)
    (fun c pre W => c = .ret ∧ (∃ pre0 x, pre = pre0 ++ [x] ∧ labB (clip x) = false) ∧ Boxed W w.heap.size 4 (.bool false) ∧ Fresh w W)
    (fun s A B row hs hg hr => by
      obtain ⟨h1, h2, h3⟩ := hs
      exact ⟨box_own h1 hg hr, h2, fresh_own h3 hF0.size hg hr⟩)
    (fun c s A B row hs hg hr => by
      obtain ⟨h1, h2, h3, h4⟩ := hs
      exact ⟨h1, h2, box_own h3 hg hr, fresh_own h4 hF0.size hg hr⟩)
    ⟨b0, by simp, hF0⟩
    (fun x => { tmps := #[.string (tx l), undef, .pointer (some ⟨w.heap.size, 0, none⟩), .string (tx (clip x)), .string (tx l), .bool true, .bool false, .string (tx l), .func (.func 171) #[] #[.pointer (some ⟨w.heap.size + 1, 0, none⟩)], .string (tx (clip x)), undef, undef, undef], defers := [] }) ?assign ?body ?done ?stop
  case assign =>
    intro y x W K hK
    unfold encL
    gi_wp2
    exact hK
  case body =>
    rintro y pre x W ⟨hv, hgood, hF⟩ hlt
    have hcl := clip_len x
    have HLB := Lib.hid (label_any (tx (clip x)) W (by rw [tx_size]; unfold maxLen; omega))
    rw [tx_toList] at HLB
    have HB : Hid (∀ b, labB (clip x) = b → labB (clip x) = b) := fun b h => h
    have z0 := hv.cell
    have y0 := hv.frozen
    have HV := Lib.hid hv
    have HF := Lib.hid hF
    have HG := Lib.hid hgood
    clear hv hF hgood hcl
    cases hb : labB (clip x) with
    | false =>
      rw [hb] at HLB
      gi_wp2_with (fail)
      refine ⟨trivial, ?_⟩
      refine (CallsIn.inRound y (callsIn_wide.2 HLB.out)).mono ?_
      rintro e W1 ⟨rfl, rfl⟩
      gi_wp2
      exact ⟨(KeepsOthers.setCell _ _ _).from _, rfl, ⟨pre, x, rfl, hb⟩, HV.out.set _, HF.out.setCell (p := ⟨w.heap.size, 0, none⟩) (Nat.le_refl _) _⟩
    | true =>
      rw [hb] at HLB
      gi_wp2_with (fail)
      refine ⟨trivial, ?_⟩
      refine (CallsIn.inRound y (callsIn_wide.2 HLB.out)).mono ?_
      rintro e W1 ⟨rfl, rfl⟩
      gi_wp2
      refine ⟨(KeepsOthers.refl _).from _, trivial, HV.out, ?_, HF.out⟩
      intro z hz
      rcases List.mem_append.1 hz with h | h
      · exact HG.out z h
      · rw [List.mem_singleton.1 h]; exact hb
  case done =>
    rintro D xs W hD rfl ⟨hv, hgood, hF⟩ hK
    have HX : Hid (nameB l = true) := by
      rw [Hid, HNB.out, List.all_eq_true]
      intro x hx
      have := hgood x hx
      rwa [HCM.out x hx] at this
    have z0 := hv.cell
    have y0 := hv.frozen
    have A0 := Lib.hid hv
    have HF := Lib.hid hF
    have HK := Lib.hid hK
    have HD := Lib.hid hD
    clear hF hv hK hD hgood
    gi_wp2
    have K1 := (KeepsOthers.setCell W ⟨w.heap.size, 0, none⟩ (.bool true)).same D _ HK.out rfl
    have p0 := A0.out.set (.bool true)
    have hF1 := HF.out.setCell (p := ⟨w.heap.size, 0, none⟩) (Nat.le_refl _) (.bool true)
    generalize W.setCell ⟨w.heap.size, 0, none⟩ (.bool true) = W1 at *
    have g1 := grownBy_putObj' W1 D (.deferred none)
    have hr1 : ∀ r, some D = some r → W0.heap.size ≤ r ∧ ∃ o : Obj, W1.heap[r]? = some o ∧ o.isCells = false := fun r e => by cases e; exact ⟨HD.out, _, K1, rfl⟩
    have c0 := (box_own p0 g1 hr1).cell
    refine ⟨by simp, .inl ⟨_, _, rfl, run_takeDeferred K1, ?_⟩⟩
    refine ⟨.bool true, ?_, ?_⟩
    · simp [results, Tryz.f122, go_sem, c0]
    · rw [HX.out]
      exact ⟨rfl, fresh_own hF1 hF0.size g1 hr1⟩
  case stop =>
    rintro D c pre W hD hSp ⟨rfl, ⟨p0, x, rfl, hx⟩, hv, hF⟩ hK
    have HX : Hid (nameB l = false) := by
      rw [Hid, HNB.out, Bool.eq_false_iff]
      intro h
      have hm : x ∈ lnsA [] l := hSp.subset (by simp)
      have := List.all_eq_true.1 h x hm
      rw [HCM.out x hm] at hx
      rw [hx] at this; cases this
    have z0 := hv.cell
    have A0 := Lib.hid hv
    have HF := Lib.hid hF
    have HK := Lib.hid hK
    have HD := Lib.hid hD
    clear hx hF hv hK hD hSp
    gi_wp2
    have g1 := grownBy_putObj' W D (.deferred none)
    have hr1 : ∀ r, some D = some r → W0.heap.size ≤ r ∧ ∃ o : Obj, W.heap[r]? = some o ∧ o.isCells = false := fun r e => by cases e; exact ⟨HD.out, _, HK.out, rfl⟩
    have c0 := (box_own A0.out g1 hr1).cell
    refine ⟨by simp, .inl ⟨_, _, rfl, run_takeDeferred HK.out, ?_⟩⟩
    refine ⟨.bool false, ?_, ?_⟩
    · simp [results, Tryz.f122, go_sem, c0]
    · rw [HX.out]
      exact ⟨rfl, fresh_own HF.out hF0.size g1 hr1⟩
/-- Whatever text. -/
theorem name_any (l : List UInt8) (w : World) (hs : l.length ≤ maxLen) : Calls Tryz.prog 122 #[.string (tx l)] w fun e w' => e = .returned (.bool (nameB l)) ∧ Fresh w w' := by
  cases hf : (decide (1 ≤ l.length) && decide (l.length ≤ 253)) with
  | true =>
    simp only [Bool.and_eq_true, decide_eq_true_eq] at hf
    exact name_yes l w hf.1 hf.2
  | false =>
    have HX : Hid (nameB l = false) := by
      rw [Hid, nameB, hf]; rfl
    have HF : Hid (∀ W, Calls Tryz.prog 149 #[.string (tx l), .int .i64 253] W fun e w' => e = .returned (.bool false) ∧ W = w') := fun W => by
      have := fits_any (tx l) 253 W (by rw [tx_size]; exact hs)
      rw [tx_size, hf] at this
      exact this
    rw [HX.out]
    clear HX hf hs
    generalize tx l = s at *
    go_enter Tryz.func122, Tryz.ntmps122
    go_wp2_with (go_at_call 149; refine (HF.out _).mono ?_; rintro e w' ⟨rfl, rfl⟩)
    exact bodyPost_ret (v := .bool false) (by simp [results, Tryz.f122, go_sem]) rfl ⟨rfl, (Fresh.refl w).alloc _⟩
end Go.Proofs.YtldncgelghcjeaaGreatDoor
namespace Go.Proofs.YtldncgelghcjeaaGreatDoor
open Go.ChangeShapes Go.WideShapes Go.ChangeAt Go.RowKit
attribute [local go_sem ↓] Go.wp_at_zero Go.wp_at_succ

def namesM (l : List CM) : List ByteArray := l.map fun m => m.c.name
set_option maxRecDepth 100000 in
set_option maxHeartbeats 4000000 in
theorem check_any (p : PM) (w : World) (hT : Tabs w) (h : p.At w) (hs : p.pd.Sml) (hpc : ∀ m ∈ p.cs, m.c.ports.length ≤ m.pc) :
    Calls Tryz.prog 85 #[p.val] w fun e w' => e = .returned (.int .i64 (podE p.pd)) ∧ Fresh w w' := by
  obtain ⟨name, ns, rs, gr, ho, a, cap, cs⟩ := p
  have HT := Lib.hid hT
  have HROW := Lib.hid h.row
  have HINS := Lib.hid h.ins
  have HPC := Lib.hid hpc
  have d1 : name.size ≤ 1048576 := hs.name
  have d2 : ns.size ≤ 1048576 := hs.ns
  have d3 : cs.length ≤ 1048576 := by have := hs.len; simpa [PM.pd] using this
  have HSM : Hid (∀ m ∈ cs, m.c.Sml) := fun m hm => hs.cs m.c (List.mem_map.2 ⟨m, hm, rfl⟩)
  have HNM : Hid (∀ W, Calls Tryz.prog 122 #[.string name] W fun e w' => e = .returned (.bool (nameB name.data.toList)) ∧ Fresh W w') := fun W => by
    have := name_any name.data.toList W (by unfold maxLen; simp; omega)
    rwa [tx_of] at this
  have HLB := Lib.hid (fun W => label_any ns W (by unfold maxLen; omega))
  have HP : Hid (podE (PM.mk name ns rs gr ho a cap cs).pd = if headE (PM.mk name ns rs gr ho a cap cs).pd = 0 then csE [] (cs.map (·.c)) else headE (PM.mk name ns rs gr ho a cap cs).pd) := rfl
  have HH : Hid (headE (PM.mk name ns rs gr ho a cap cs).pd = if nameB name.data.toList = true ∧ labB ns.data.toList = true then (if rs < 0 ∨ 2 < rs ∨ gr < 1 ∨ 3600 < gr then 7 else if cs.length = 0 then 16 else if 16 < cs.length then 18 else 0) else 13) := by
    rw [Hid, headE]
    simp only [PM.pd, List.length_map]
  have HA := Lib.hid (at_new w (.cells #[.string name, .string ns, .int .i64 rs, .int .i64 gr, .bool ho, .slice a cs.length cap] 41))
  have HF0 := Lib.hid ((Fresh.refl w).alloc (.cells #[.string name, .string ns, .int .i64 rs, .int .i64 gr, .bool ho, .slice a cs.length cap] 41))
  have HKR := Lib.hid (fun W => knownR_any rs W)
  have HWI := Lib.hid (fun W => within_any gr 3600 W)
  have hmm := @run_makeMap Tryz.prog
  have HMM := Lib.hid hmm
  clear hmm
  dsimp only [PM.val] at *
  clear h hs hT hpc
  generalize podE (PM.mk name ns rs gr ho a cap cs).pd = R at *
  generalize headE (PM.mk name ns rs gr ho a cap cs).pd = H at *
  cases hn : nameB name.data.toList with
  | false =>
    rw [hn] at HNM
    have HR : Hid (R = 13) := by
      have : H = 13 := by rw [HH.out, if_neg (by rw [hn]; simp)]
      rw [Hid, HP.out, this, if_neg (by decide)]
    clear HH HP hn
    go_enter Tryz.func85, Tryz.ntmps85
    go_wp2_with (fail)
    refine (HNM.out _).mono ?_
    rintro e w1 ⟨rfl, hf⟩
    have HF := Lib.hid (HF0.out.trans hf)
    clear hf
    go_wp2
    go_ret
    exact ⟨ret_int HR.out.symm, HF.out⟩
  | true =>
    rw [hn] at HNM
    cases hl : labB ns.data.toList with
    | false =>
      rw [hl] at HLB
      have HR : Hid (R = 13) := by
        have : H = 13 := by rw [HH.out, if_neg (by rw [hl]; simp)]
        rw [Hid, HP.out, this, if_neg (by decide)]
      clear HH HP hn hl
      go_enter Tryz.func85, Tryz.ntmps85
      go_wp2_with (fail)
      refine (HNM.out _).mono ?_
      rintro e w1 ⟨rfl, hf⟩
      obtain ⟨⟨q0, q1, q2, q3, q4, q5⟩, _⟩ := box6p (hf.at HA.out)
      have HF := Lib.hid (HF0.out.trans hf)
      clear hf
      go_wp2_with (fail)
      refine (HLB.out _).mono ?_
      rintro e w2 ⟨rfl, rfl⟩
      go_wp2
      go_ret
      exact ⟨ret_int HR.out.symm, HF.out⟩
    | true =>
      rw [hl] at HLB
      have HH2 : Hid (H = if rs < 0 ∨ 2 < rs ∨ gr < 1 ∨ 3600 < gr then 7 else if cs.length = 0 then 16 else if 16 < cs.length then 18 else 0) := by rw [Hid, HH.out, if_pos ⟨hn, hl⟩]
      clear HH hn hl
      go_enter Tryz.func85, Tryz.ntmps85
      go_wp2_with (fail)
      refine (HNM.out _).mono ?_
      rintro e w1 ⟨rfl, hf⟩
      have hA1 := hf.at HA.out
      have HF1 := Lib.hid (HF0.out.trans hf)
      obtain ⟨⟨q0, q1, q2, q3, q4, q5⟩, _⟩ := box6p hA1
      have HA1 := Lib.hid hA1
      clear hA1 hf HA HF0
      obtain ⟨b, hb⟩ : ∃ b, b = w.heap.size := ⟨_, rfl⟩
      rw [← hb] at q0 q1 q2 q3 q4 q5 HA1 ⊢
      clear hb
      go_wp2_with (fail)
      refine (HLB.out _).mono ?_
      rintro e w2 ⟨rfl, rfl⟩
      go_wp2_with (fail)
      refine (HKR.out _).mono ?_
      rintro e w2 ⟨rfl, rfl⟩
      by_cases hrs : 0 ≤ rs ∧ rs < 3
      case neg =>
        have e0 : (decide (0 ≤ rs) && decide (rs < 3)) = false := by
          rw [Bool.eq_false_iff]; intro e
          simp only [Bool.and_eq_true, decide_eq_true_eq] at e
          exact hrs e
        rw [e0]
        have HR : Hid (R = 7) := by
          have : H = 7 := by rw [HH2.out, if_pos (by omega)]
          rw [Hid, HP.out, this, if_neg (by decide)]
        clear HH2 HP hrs e0
        go_wp2
        all_goals try (exfalso; omega)
        go_ret
        exact ⟨ret_int HR.out.symm, HF1.out⟩
      rw [decide_eq_true hrs.1, decide_eq_true hrs.2]
      go_wp2_with (fail)
      refine (HWI.out _).mono ?_
      rintro e w2 ⟨rfl, rfl⟩
      by_cases hgr : 1 ≤ gr ∧ gr ≤ 3600
      case neg =>
        have e0 : (decide (1 ≤ gr) && decide (gr ≤ 3600)) = false := by
          rw [Bool.eq_false_iff]; intro e
          simp only [Bool.and_eq_true, decide_eq_true_eq] at e
          exact hgr e
        rw [e0]
        have HR : Hid (R = 7) := by
          have : H = 7 := by rw [HH2.out, if_pos (by omega)]
          rw [Hid, HP.out, this, if_neg (by decide)]
        clear HH2 HP hrs hgr e0
        go_wp2
        all_goals try (exfalso; omega)
        go_ret
        exact ⟨ret_int HR.out.symm, HF1.out⟩
      rw [decide_eq_true hgr.1, decide_eq_true hgr.2]
      have HH3 : Hid (H = if cs.length = 0 then 16 else if 16 < cs.length then 18 else 0) := by rw [Hid, HH2.out, if_neg (by omega)]
      clear HH2 hrs hgr
      by_cases h0 : cs.length = 0
      · have HR : Hid (R = 16) := by
          have : H = 16 := by rw [HH3.out, if_pos h0]
          rw [Hid, HP.out, this, if_neg (by decide)]
        clear HH3 HP
        go_wp2
        all_goals try (exfalso; omega)
        all_goals go_ret
        all_goals exact ⟨ret_int HR.out.symm, HF1.out⟩
      by_cases h16 : 16 < cs.length
      · have HR : Hid (R = 18) := by
          have : H = 18 := by rw [HH3.out, if_neg h0, if_pos h16]
          rw [Hid, HP.out, this, if_neg (by decide)]
        have e5 : ((cs.length : Int) == 0) = false := by rw [beq_eq_false_iff_ne]; omega
        clear HH3 HP
        go_wp2
        all_goals try (exfalso; omega)
        all_goals go_ret
        all_goals exact ⟨ret_int HR.out.symm, HF1.out⟩
      have HR0 : Hid (R = csE [] (cs.map (·.c))) := by
        have : H = 0 := by rw [HH3.out, if_neg h0, if_neg h16]
        rw [Hid, HP.out, if_pos this]
      clear HP HH3
      have hpos : 0 < cs.length := by omega
      have e5 : ((cs.length : Int) == 0) = false := by rw [beq_eq_false_iff_ne]; omega
      clear h0
      have hmm := HMM.out
      have p5 : (w1.alloc (.map #[] 0)).cell? ⟨b, 5, none⟩ = some (.slice a cs.length cap) := ((Fresh.refl w1).alloc _).cell q5
      go_wp2
      all_goals try (exfalso; omega)
      clear p5
      have HM0 := Lib.hid (seen_made w1)
      have HFM := Lib.hid ((Fresh.refl w1).alloc (.map #[] 0))
      generalize w1.alloc (.map #[] 0) = W0 at *
      have HBW : Hid (w.heap.size ≤ w1.heap.size) := HF1.out.size
      generalize hbm : w1.heap.size = bm at *
      clear hmm q0 q1 q2 q3 q4 q5 hbm
      go_loopw [43] (fun a43 wr => ∃ (k : Nat), a43 = .int .i64 (k : Int) ∧ k ≤ cs.length ∧ Hid (R = csE (namesM (cs.take k)) ((cs.drop k).map (·.c))) ∧ Hid (seenIs wr bm k (namesM (cs.take k))) ∧ Hid (Fresh w wr)) (fun a43 _ => cs.length - (intOf a43).toNat)
      case atStart => exact ⟨0, rfl, Nat.zero_le _, HR0.out, HM0.out, HF1.out.trans HFM.out⟩
      case round =>
        obtain ⟨k, rfl, hk, HE, HS, HF⟩ := hrel
        by_cases hlt : k < cs.length
        · obtain ⟨g, o1, rfl, hc⟩ := crow_form (HROW.out.move HF.out) hlt
          obtain ⟨c0, c1, c2, c3, c4, c5, c6⟩ := hc k hlt
          have HTK : Hid (namesM (cs.take (k + 1)) = namesM (cs.take k) ++ [cs[k].c.name]) := by
            rw [Hid, List.take_succ_eq_append_getElem hlt]
            unfold namesM
            rw [List.map_append]; rfl
          have HST : Hid (R = if ctE (namesM (cs.take k)) cs[k].c = 0 then csE (namesM (cs.take (k + 1))) ((cs.drop (k + 1)).map (·.c)) else ctE (namesM (cs.take k)) cs[k].c) := by
            rw [Hid, HE.out, List.drop_eq_getElem_cons hlt, List.map_cons, csE, HTK.out]
          have HQ : Hid (∀ W, Fresh w W → seenIs W bm k (namesM (cs.take k)) → Calls Tryz.prog 126 #[cs[k].val, .map (some bm)] W fun e w' => e = .returned (.int .i64 (ctE (namesM (cs.take k)) cs[k].c)) ∧ (ctE (namesM (cs.take k)) cs[k].c = 0 → seenIs w' bm (k + 1) (namesM (cs.take k) ++ [cs[k].c.name])) ∧ Fresh w w') := fun W f hsn =>
            fault_any cs[k] w W bm k _ HT.out (HINS.out _ (List.getElem_mem hlt)) (HSM.out _ (List.getElem_mem hlt)) (HPC.out _ (List.getElem_mem hlt)) f HBW.out (by omega) hsn
          clear hc
          generalize ctE (namesM (cs.take k)) cs[k].c = E at *
          generalize cs[k] = m at *
          obtain ⟨⟨s0, s1, lc, lp, n4, n5, le⟩, ca, cc, pa, pc, ea, ec⟩ := m
          dsimp only [CM.val] at *
          generalize lc.length = z1 at *
          generalize lp.length = z2 at *
          generalize le.length = z3 at *
          have i1 : (0 : Int) ≤ (k : Int) := by omega
          have i2 : (k : Int) < (cs.length : Int) := by omega
          have HFA := Lib.hid ((Fresh.refl wr).alloc (.cells #[.string s0, .string s1, .slice ca z1 cc, .slice pa z2 pc, .int .i64 n4, .int .i64 n5, .slice ea z3 ec] 126))
          have HQ2 := Lib.hid (HQ.out _ (HF.out.trans HFA.out) (HS.out.fresh HFA.out))
          by_cases hE : E = 0
          · have HN : Hid (R = csE (namesM (cs.take (k + 1))) ((cs.drop (k + 1)).map (·.c))) := by rw [Hid, HST.out, if_pos hE]
            subst hE
            clear HST
            go_wp2_with (fail)
            all_goals try (exfalso; omega)
            refine HQ2.out.mono ?_
            rintro e W1 ⟨rfl, hs5, hf⟩
            have HF3 := Lib.hid hf
            have HS5 := Lib.hid (hs5 trivial)
            clear hf hs5
            go_wp2
            all_goals try (exfalso; omega)
            go_roundw
            case rel => exact ⟨k + 1, by simp, by omega, HN.out, by rw [HTK.out]; exact HS5.out, HF3.out⟩
            case measure => simp [intOf]; omega
          · have HR : Hid (R = E) := by rw [Hid, HST.out, if_neg hE]
            have e0 : (E == 0) = false := by rw [beq_eq_false_iff_ne]; exact hE
            have e1 : (E != 0) = true := by simp [hE]
            clear HST
            go_wp2_with (fail)
            all_goals try (exfalso; omega)
            refine HQ2.out.mono ?_
            rintro e W1 ⟨rfl, hs5, hf⟩
            have HF3 := Lib.hid hf
            clear hf hs5
            go_wp2
            all_goals try (exfalso; omega)
            go_ret
            exact ⟨ret_int HR.out.symm, HF3.out⟩
        · obtain rfl : k = cs.length := by omega
          have HR : Hid (R = 0) := by rw [Hid, HE.out, List.drop_length]; rfl
          go_wp2
          all_goals try (exfalso; omega)
          go_ret
          exact ⟨ret_int HR.out.symm, HF.out⟩
end Go.Proofs.YtldncgelghcjeaaGreatDoor
namespace Go.Proofs.YtldncgelghcjeaaGreatDoor.K
open Go.ChangeShapes Go.WideShapes Go.ChangeAt Go.RowKit
set_option maxRecDepth 100000

/-- A pod and its file, as one value. -/
def M3.flat (x : M3) : Value := .agg #[.string x.file, .string x.m.name, .string x.m.ns, .int .i64 x.m.restart, .int .i64 x.m.grace, .bool x.m.host, .slice x.m.a x.m.cs.length x.m.cap]
/-- Not great. -/
structure M3.Fit (x : M3) : Prop where
  file : x.file.size ≤ maxLen
  sml : x.m.pd.Sml
  room : ∀ m ∈ x.m.cs, m.c.ports.length ≤ m.pc
set_option maxHeartbeats 2000000 in
theorem fault3_any (x : M3) (ah : ByteArray) (w : World) (hT : Tabs w) (hin : x.m.At w) (hf : x.Fit) :
    Calls Tryz.prog 49 #[x.flat, .string ah] w fun e w' => e = .returned (.int .i64 (f3E x.p ah)) ∧ Fresh w w' := by
  have HFI := Lib.hid (fun W => file_any x.file W hf.file)
  have HCK := Lib.hid (fun W (f : Fresh w W) => Go.Proofs.YtldncgelghcjeaaGreatDoor.check_any x.m W (hT.move f) (hin.move f) hf.sml hf.room)
  have HX : Hid (f3E x.p ah = if fileB x.file = true then (if leS x.file ah = true then 6 else podE x.m.pd) else 13) := rfl
  obtain ⟨file, name, ns, rs, gr, ho, ca, cap, cs⟩ := x
  have HLE : Hid (leS file ah = (Op.bytesLess file.toList ah.toList || file.toList == ah.toList)) := rfl
  have HF0 := Lib.hid ((Fresh.refl w).alloc (.cells #[.string file, .string name, .string ns, .int .i64 rs, .int .i64 gr, .bool ho, .slice ca cs.length cap] 93))
  dsimp only [M3.flat, PM.val] at *
  clear hin hf hT
  generalize podE (PM.pd ⟨name, ns, rs, gr, ho, ca, cap, cs⟩) = PE at *
  generalize f3E (M3.p ⟨file, ⟨name, ns, rs, gr, ho, ca, cap, cs⟩⟩) ah = F at *
  generalize cs.length = n at *
  generalize hx1 : Op.bytesLess file.toList ah.toList = x1 at *
  generalize hx2 : (file.toList == ah.toList) = x2 at *
  generalize leS file ah = L at *
  cases hfb : fileB file with
  | false =>
    rw [hfb] at HFI
    have HR : Hid (F = 13) := by rw [Hid, HX.out, if_neg (by rw [hfb]; simp)]
    clear HX hfb HCK HLE
    go_enter Tryz.func49, Tryz.ntmps49
    go_wp2_with (fail)
    refine (HFI.out _).mono ?_
    rintro e w1 ⟨rfl, rfl⟩
    go_wp2
    go_ret
    exact ⟨ret_int HR.out.symm, HF0.out⟩
  | true =>
    rw [hfb] at HFI
    have HX2 : Hid (F = if L = true then 6 else PE) := by rw [Hid, HX.out, if_pos hfb]
    clear HX hfb
    cases hl : (x1 || x2) with
    | true =>
      have HR : Hid (F = 6) := by rw [Hid, HX2.out, HLE.out, hl]; rfl
      clear HX2 HLE HCK
      cases x1 <;> cases x2 <;> simp at hl
      all_goals
        go_enter Tryz.func49, Tryz.ntmps49
        go_wp2_with (fail)
        refine (HFI.out _).mono ?_
        rintro e w1 ⟨rfl, rfl⟩
        go_wp2
        go_ret
        exact ⟨ret_int HR.out.symm, HF0.out⟩
    | false =>
      have HR : Hid (F = PE) := by rw [Hid, HX2.out, HLE.out, hl]; rfl
      clear HX2 HLE
      simp only [Bool.or_eq_false_iff] at hl
      obtain ⟨rfl, rfl⟩ := hl
      go_enter Tryz.func49, Tryz.ntmps49
      go_wp2_with (fail)
      refine (HFI.out _).mono ?_
      rintro e w1 ⟨rfl, rfl⟩
      go_wp2_with (fail)
      refine (HCK.out _ HF0.out).mono ?_
      rintro e w2 ⟨rfl, hf⟩
      go_wp2
      go_ret
      exact ⟨ret_int HR.out.symm, HF0.out.trans hf⟩
set_option maxHeartbeats 4000000 in
theorem check3_any (seq : Int) (a : Option Addr) (l : List M3) (c : Nat) (w : World) (hT : Tabs w) (h : Row3 w a l) (hf : ∀ x ∈ l, x.Fit) (hll : l.length ≤ 1048576) :
    Calls Tryz.prog 14 #[st3 seq a l.length c] w fun e w' => e = .returned (.int .i64 (chk3 (pods3 l))) ∧ Fresh w w' := by
  have HROW := Lib.hid h
  have HT := Lib.hid hT
  have HFT := Lib.hid hf
  have hpl : (pods3 l).length = l.length := by simp [pods3]
  have HC : Hid (chk3 (pods3 l) = if 1024 < l.length then 18 else chk3F (ahead3 (pods3 l) 0) ((pods3 l).drop 0)) := by rw [Hid, chk3, hpl]; rfl
  have HF0 := Lib.hid ((Fresh.refl w).alloc (.cells #[.int .u64 seq, .slice a l.length c] 25))
  dsimp only [st3]
  clear h hf hT
  generalize chk3 (pods3 l) = E at *
  by_cases hm : 1024 < l.length
  · have HR : Hid (E = 18) := by rw [Hid, HC.out, if_pos hm]
    clear HC
    go_enter Tryz.func14, Tryz.ntmps14
    go_wp2
    all_goals try (exfalso; omega)
    go_ret
    exact ⟨ret_int HR.out.symm, HF0.out⟩
  · have HC2 : Hid (E = chk3F (ahead3 (pods3 l) 0) ((pods3 l).drop 0)) := by rw [Hid, HC.out, if_neg hm]
    clear HC
    go_enter Tryz.func14, Tryz.ntmps14
    go_wp2
    all_goals try (exfalso; omega)
    generalize w.alloc (.cells #[.int .u64 seq, .slice a l.length c] 25) = W0 at *
    go_loopw [3, 14] (fun a3 a14 wr => ∃ (k : Nat), a14 = .int .i64 (k : Int) ∧ a3 = .string (ahead3 (pods3 l) k) ∧ k ≤ l.length ∧ Hid (E = chk3F (ahead3 (pods3 l) k) ((pods3 l).drop k)) ∧ Hid (Fresh W0 wr)) (fun _ a14 _ => l.length - (intOf a14).toNat)
    case atStart => exact ⟨0, rfl, rfl, Nat.zero_le _, HC2.out, Fresh.refl _⟩
    case round =>
      obtain ⟨k, rfl, rfl, hk, HE, HF⟩ := hrel
      by_cases hlt : k < l.length
      · have hR := (HROW.out.move HF0.out).move HF.out
        obtain ⟨g, o1, rfl, hc⟩ := m3_form hR.row hlt
        obtain ⟨c0, c1, c2, c3, c4, c5, c6⟩ := hc k hlt
        have hkp : k < (pods3 l).length := by omega
        have hpk := pods3_get hlt hkp
        have HIN := Lib.hid (hR.ins _ (List.getElem_mem hlt))
        have HFA := Lib.hid (fun W (f : Fresh wr W) => fault3_any l[k] (ahead3 (pods3 l) k) W (((HT.out.move HF0.out).move HF.out).move f) (HIN.out.move f) (HFT.out _ (List.getElem_mem hlt)))
        have HSTEP : Hid (E = if f3E l[k].p (ahead3 (pods3 l) k) = 0 then chk3F l[k].p.file ((pods3 l).drop (k + 1)) else f3E l[k].p (ahead3 (pods3 l) k)) := by
          have := HE.out.trans (chk3F_drop hkp _)
          rw [hpk] at this; exact this
        have HAH : Hid (ahead3 (pods3 l) (k + 1) = l[k].p.file) := by have := ahead3_succ (pods3 l) k hkp; rw [hpk] at this; exact this
        clear hc hR hkp hpk HIN HE
        generalize f3E l[k].p (ahead3 (pods3 l) k) = F at *
        generalize ahead3 (pods3 l) k = ah at *
        generalize l[k] = p at *
        obtain ⟨file, name, ns, rs, gr, ho, ca, cap, cs⟩ := p
        dsimp only [M3.flat, M3.p, PM.val] at *
        generalize cs.length = n at *
        have HP := Lib.hid (at_new wr (.cells #[.string file, .string name, .string ns, .int .i64 rs, .int .i64 gr, .bool ho, .slice ca n cap] 93))
        have HF1 := Lib.hid ((Fresh.refl wr).alloc (.cells #[.string file, .string name, .string ns, .int .i64 rs, .int .i64 gr, .bool ho, .slice ca n cap] 93))
        by_cases hF : F = 0
        · subst hF
          have HN : Hid (E = chk3F file ((pods3 l).drop (k + 1))) := by rw [Hid, HSTEP.out, if_pos rfl]
          clear HSTEP
          go_wp2_with (fail)
          all_goals try (exfalso; omega)
          refine (HFA.out _ HF1.out).mono ?_
          rintro e w1 ⟨rfl, hf⟩
          have q0 := cell_of_at (hf.at HP.out) (i := 0) rfl
          have HF2 := Lib.hid ((HF.out.trans HF1.out).trans hf)
          clear hf
          go_wp2
          go_roundw
          case rel => exact ⟨k + 1, by simp, by rw [HAH.out], by omega, by rw [HAH.out]; exact HN.out, HF2.out⟩
          case measure => simp [intOf]; omega
        · have HR : Hid (E = F) := by rw [Hid, HSTEP.out, if_neg hF]
          have e0 : (F == 0) = false := by rw [beq_eq_false_iff_ne]; exact hF
          clear HSTEP
          go_wp2_with (fail)
          all_goals try (exfalso; omega)
          refine (HFA.out _ HF1.out).mono ?_
          rintro e w1 ⟨rfl, hf⟩
          have HF2 := Lib.hid ((HF.out.trans HF1.out).trans hf)
          clear hf
          go_wp2
          all_goals try (exfalso; omega)
          go_ret
          exact ⟨ret_int HR.out.symm, HF0.out.trans HF2.out⟩
      · obtain rfl : k = l.length := by omega
        have HR : Hid (E = 0) := by rw [Hid, HE.out, List.drop_of_length_le (by omega)]; rfl
        go_wp2
        all_goals try (exfalso; omega)
        go_ret
        exact ⟨ret_int HR.out.symm, HF0.out.trans HF.out⟩
end Go.Proofs.YtldncgelghcjeaaGreatDoor.K
