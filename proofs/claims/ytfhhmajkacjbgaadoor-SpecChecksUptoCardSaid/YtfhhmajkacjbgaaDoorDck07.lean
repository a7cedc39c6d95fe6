/-
  strings.Cut at a point; a range over what the points of a text part.
  What dns.Name returns, for every text.
  What is wrong with a pod, by package spec.
  Package utf's Unquote of texts that are quoted well.
  Of valid UTF-8: bytes behind a lead byte.
  Of valid UTF-8: what its first character is, and how many bytes it has.
-/
import Derived.Test.YtfhhmajkacjbgaaDoorDck01
import Derived.Test.YtfhhmajkacjbgaaDoorDck03
import Derived.BigQuiet
import Derived.Shelf.RegionOpen
import Derived.RangeFuncNested
import Derived.RangeFuncBound
import Derived.RangeFuncCalls
import Derived.RangeFuncLeaves
import Derived.RangeFuncBox
import Derived.OwnWalkIn
import Derived.TacticsInMore
import Derived.LoopNIn
import Derived.LoopIn
import Derived.Shelf.Strings.Search2
import Derived.Test.YtfhhmajkacjbgaaDoorDck06
import Derived.RangeFuncWrites
import Derived.Test.YtfhhmajkacjbgaaDoorDck05
import Derived.IntWalk
namespace Go.Proofs.YtfhhmajkacjbgaaDoor
open Go.ChangeShapes Go.WideShapes Go.ChangeAt Go.RowKit Go.Shelf
attribute [local go_sem] Oper.semAt_some
variable {w : World}

/-- How long a text is; nothing else has a length. -/
def strSize : Value → Nat
  | .string t => t.size
  | _ => 0
theorem strSize_string (t : ByteArray) : strSize (.string t) = t.size := rfl
theorem index1_any (l : List UInt8) (w : World) : Calls Tryd.prog 94 #[.string (tx l), .string ⟨#[46]⟩] w fun e w' => e = .returned (.int .i64 (Lib.indexByte l 46)) ∧ w = w' := by
  refine (Any.stringslite_Index_one Tryd.laysSub (tx l) 46 w).mono ?_
  rintro e w' ⟨h1, h2⟩
  rw [tx_toList] at h1
  exact ⟨h1, h2.symm⟩
/-- The first line, what is behind it, and whether there was a line feed. -/
def cutF (l : List UInt8) : List UInt8 × List UInt8 × Bool := if Lib.indexByte l 46 = -1 then (l, [], false) else (l.take (Lib.indexByte l 46).toNat, l.drop ((Lib.indexByte l 46).toNat + 1), true)
theorem cutS_any (l : List UInt8) (w : World) (hs : l.length ≤ 1000000) : Calls Tryd.prog 88 #[.string (tx l), .string ⟨#[46]⟩] w fun e w' => e = .returned (.tuple #[.string (tx (cutF l).1), .string (tx (cutF l).2.1), .bool (cutF l).2.2]) ∧ Fresh w w' := by
  have HI := Lib.hid (fun W => index1_any l W)
  rcases indexByte_cases l 46 with h | ⟨k, h⟩
  · have HC : Hid (cutF l = (l, [], false)) := by rw [Hid, cutF, if_pos h]
    rw [h] at HI
    clear h
    rw [HC.out]
    dsimp only
    clear HC
    generalize tx l = s at *
    go_enter Tryd.func88, Tryd.ntmps88
    go_wp2_with (go_at_call 94; refine (HI.out _).mono ?_; rintro e w' ⟨rfl, rfl⟩)
    go_ret3
    exact ⟨rfl, Fresh.refl _⟩
  · have HC : Hid (cutF l = (l.take k, l.drop (k + 1), true)) := by rw [Hid, cutF, if_neg (by omega), h]; simp
    have hk := (indexByte_some l 46 k h).1
    rw [h] at HI
    clear h
    rw [HC.out]
    dsimp only
    clear HC
    have HSZ := Lib.hid (tx_size l)
    have q1 : (tx l).extract 0 k = tx (l.take k) := by rw [tx_extract, tx_toList]; simp
    have q2 : (tx l).extract (k + 1) (tx l).size = tx (l.drop (k + 1)) := by
      rw [tx_extract, tx_toList, tx_size]
      congr 1
      rw [List.take_of_length_le (by simp)]
    have hks : k < (tx l).size := by rw [HSZ.out]; exact hk
    have hsz : (tx l).size ≤ 1000000 := by rw [HSZ.out]; exact hs
    generalize tx (l.take k) = r1 at *
    generalize tx (l.drop (k + 1)) = r2 at *
    generalize tx l = s at *
    clear HSZ hk
    have c1 : (0 : Int) ≤ ↑k := by omega
    have c2 : (↑k : Int) ≤ ↑s.size := by omega
    have c3 : (0 : Int) ≤ ↑k + 1 := by omega
    have c4 : (↑k + 1 : Int) ≤ ↑s.size := by omega
    go_enter Tryd.func88, Tryd.ntmps88
    go_wp2_with (go_at_call 94; refine (HI.out _).mono ?_; rintro e w' ⟨rfl, rfl⟩)
    go_region
    go_wp2
    go_ret3
    exact ⟨rfl, Fresh.drew (Fresh.refl _)⟩
theorem cut_any (l : List UInt8) (w : World) (hs : l.length ≤ 1000000) : Calls Tryd.prog 75 #[.string (tx l), .string ⟨#[46]⟩] w fun e w' => e = .returned (.tuple #[.string (tx (cutF l).1), .string (tx (cutF l).2.1), .bool (cutF l).2.2]) ∧ Fresh w w' := by
  have HI := Lib.hid (fun W => cutS_any l W hs)
  generalize cutF l = c at *
  obtain ⟨a, b, d⟩ := c
  dsimp only at *
  generalize tx l = s at *
  generalize tx a = r1 at *
  generalize tx b = r2 at *
  go_enter Tryd.func75, Tryd.ntmps75
  go_wp2_with fail
  refine (HI.out _).mono ?_
  rintro e w' ⟨rfl, hf⟩
  have HF := Lib.hid hf
  clear hf
  go_wp2
  go_ret3
  exact ⟨rfl, HF.out⟩
theorem lns_cut_no (l : List UInt8) (h : (cutF l).2.2 = false) : lnsA [] l = [(cutF l).1] := by
  unfold cutF at *
  by_cases hx : Lib.indexByte l 46 = -1
  · rw [if_pos hx]
    exact lnsA_none l [] (indexByte_none l 46 hx)
  · rw [if_neg hx] at h
    cases h
theorem lns_cut_yes (l : List UInt8) (h : (cutF l).2.2 = true) : lnsA [] l = (cutF l).1 :: lnsA [] (cutF l).2.1 ∧ (cutF l).2.1.length < l.length := by
  unfold cutF at *
  by_cases hx : Lib.indexByte l 46 = -1
  · rw [if_pos hx] at h
    cases h
  · rw [if_neg hx]
    rcases indexByte_cases l 46 with h1 | ⟨k, h1⟩
    · exact absurd h1 hx
    · rw [h1, Int.toNat_natCast]
      obtain ⟨h2, h3, h4⟩ := indexByte_some l 46 k h1
      refine ⟨?_, by simp; omega⟩
      conv => lhs; rw [h3]
      rw [lnsA_cut _ _ _ h4]
      simp
def clip (l : List UInt8) : List UInt8 := l.take 1000000
theorem clip_len (l : List UInt8) : (clip l).length ≤ 1000000 := by simp [clip]; omega
theorem clip_self {l : List UInt8} (h : l.length ≤ 1000000) : clip l = l := List.take_of_length_le h
/-- A part as it is handed over. -/
def encL (x : List UInt8) : Array Value := #[.string (tx (clip x))]
theorem cutF_len (l : List UInt8) : (cutF l).1.length ≤ l.length := by
  unfold cutF
  split
  · exact Nat.le_refl _
  · simp; omega
theorem cutF_len2 (l : List UInt8) : (cutF l).2.1.length ≤ l.length := by
  unfold cutF
  split
  · simp
  · simp
set_option maxRecDepth 100000 in
set_option maxHeartbeats 2000000 in
theorem iter_stops (l : List UInt8) (Bn : Nat) (w : World) (n : Nat) (hn : 2 ≤ n) (hs : l.length ≤ 1000000) (hBn : Bn < w.heap.size) (hc : w.cell? ⟨Bn, 0, none⟩ = some (.string (tx l))) :
    SeqStopsK Fence.wide n Tryd.prog 74 #[.pointer (some ⟨Bn, 0, none⟩)] encL (fun _ _ => True) (fun xs => xs = lnsA [] l) (fun pre => pre <+: lnsA [] l) (lnsA [] l).length w := fun y J Jx W hW hJ _ hY h0 => by
  have hc' : W.cell? ⟨Bn, 0, none⟩ = some (.string (tx l)) := (hW.cell (p := ⟨Bn, 0, none⟩) hBn).trans hc
  dsimp only
  have hln := lnsA_len [] l
  obtain ⟨full, hfull⟩ : ∃ full, full = lnsA [] l := ⟨_, rfl⟩
  rw [← hfull] at hY hln
  rw [← hfull]
  have HFULL := Lib.hid hfull
  have HLN : Hid (full.length ≤ 1000001) := by rw [Hid]; omega
  have HY := Lib.hid hY
  have HJ := Lib.hid hJ
  have H0 := Lib.hid h0
  clear hfull hln hY hJ h0 hc hW
  refine callsIn_of_wp Tryd.func74 rfl trivial ?_ rfl
  simp only [Tryd.ntmps74, List.size_toArray, List.length_cons, List.length_nil, Nat.reduceAdd, Nat.reduceSub, Array.replicate_succ, Array.replicate_zero, List.push_toArray, List.append_toArray, List.nil_append, List.cons_append]
  gi_wp2
  gi_loopw [3, 4] (fun a3 a4 wr => ∃ (pre : List (List UInt8)) (r : List UInt8) (more : Bool), a3 = .string (tx r) ∧ a4 = .bool more ∧ Hid (J pre wr) ∧ Hid (r.length ≤ 1000000) ∧ Hid (more = true → full = pre ++ lnsA [] r) ∧ Hid (more = false → full = pre))
    (fun a3 a4 _ => match a4 with | .bool true => strSize a3 + 1 | _ => 0)
  case atStart => exact ⟨[], l, true, rfl, rfl, H0.out, hs, fun _ => HFULL.out, fun h => by cases h⟩
  case round =>
    obtain ⟨pre, r, more, rfl, rfl, HJS, HR, HT, HF⟩ := hrel
    cases more with
    | false =>
      gi_wp2
      go_end0
      exact ⟨⟨_, rfl⟩, .inl (by rw [HF.out (by simp)]; exact HJS.out)⟩
    | true =>
      have HCUT := Lib.hid (cut_any r wr HR.out)
      have HNO := Lib.hid (lns_cut_no r)
      have HYES := Lib.hid (lns_cut_yes r)
      have hc1 := cutF_len r
      have hc2 := cutF_len2 r
      generalize cutF r = c at *
      obtain ⟨c1, c2, m⟩ := c
      dsimp only at *
      have HC1 : Hid (clip c1 = c1) := clip_self (by have := HR.out; omega)
      have HC2 : Hid (c2.length ≤ 1000000) := by have := HR.out; rw [Hid]; omega
      clear hc1 hc2
      have HSZ := Lib.hid (tx_size r)
      gi_wp2_with (fail)
      refine ⟨trivial, fun _ => by omega, ?_⟩
      refine (callsIn_wide.2 HCUT.out).mono ?_
      rintro e W2 ⟨rfl, hf⟩
      have HJ2 := Lib.hid (HJ.out pre wr W2 none HJS.out ⟨hf.os, hf.tape, hf.output, hf.size, fun k hk _ => hf.block k hk⟩ (fun r e => by cases e))
      clear hf
      have hnum : full = pre ++ c1 :: (if m = true then lnsA [] c2 else []) := by
        rw [HT.out (by simp)]
        cases m with
        | false => rw [HNO.out rfl]; rfl
        | true => rw [(HYES.out rfl).1]; rfl
      have hlt : pre.length < full.length := by rw [hnum]; simp
      obtain ⟨fn, tmps, assign, body, hy, hR⟩ := HY.out pre c1 W2 HJ2.out hlt
      dsimp only [encL] at hy
      rw [HC1.out] at hy
      have HNUM := Lib.hid hnum
      have HRR := Lib.hid hR
      clear hnum hlt hR
      gi_wp2_with (fail)
      refine ⟨fun _ => by omega, ?_⟩
      refine HRR.out.mono ?_
      clear HRR hy
      rintro e W3 (⟨rfl, hJ3, _⟩ | ⟨rfl, hJx3⟩)
      · have HJ3 := Lib.hid hJ3
        clear hJ3
        gi_wp2
        go_roundw
        case rel =>
          refine ⟨pre ++ [c1], c2, m, rfl, rfl, HJ3.out, HC2.out, ?_, ?_⟩
          · intro h
            rw [HNUM.out, if_pos h]; simp
          · intro h
            rw [HNUM.out, if_neg (by rw [h]; simp)]
        case measure =>
          cases m with
          | false => simp
          | true =>
            have := (HYES.out rfl).2
            simp [strSize_string, tx_size]; omega
      · have HJ3 := Lib.hid hJx3
        clear hJx3
        gi_wp2
        refine bodyPost_ret (results_none rfl _ _ _) rfl ?_
        exact ⟨⟨_, rfl⟩, .inr ⟨pre ++ [c1], ⟨if m = true then lnsA [] c2 else [], by rw [HNUM.out]; simp⟩, HJ3.out⟩⟩
theorem labels_any (s : ByteArray) (w : World) : Calls Tryd.prog 47 #[.string s] w fun e w' => e = .returned (.func (.func 74) #[] #[.pointer (some ⟨w.heap.size, 0, none⟩)]) ∧ w' = w.alloc (.cells #[.string s] 9) := by
  go_enter Tryd.func47, Tryd.ntmps47
  go_wp2
  go_ret
  exact ⟨rfl, rfl⟩
end Go.Proofs.YtfhhmajkacjbgaaDoor
namespace Go.Proofs.YtfhhmajkacjbgaaDoor
open Go.ChangeShapes Go.WideShapes Go.ChangeAt Go.RowKit Go.Shelf
attribute [local go_sem] Oper.semAt_some
variable {w : World}

theorem box_own {A A' : World} {B0 : Nat} {row : Option Nat} {b t : Nat} {v : Value} (h : Boxed A b t v) (hg : A.grownBy A' row) (hr : ∀ r, row = some r → B0 ≤ r ∧ ∃ o : Obj, A.heap[r]? = some o ∧ o.isCells = false) : Boxed A' b t v :=
  h.kept hg (fun e => by
    obtain ⟨_, o, ho, hc⟩ := hr b e.symm
    rw [show A.heap[b]? = _ from h] at ho; cases ho; cases hc)
theorem fresh_own {w A A' : World} {B0 : Nat} {row : Option Nat} (h : Fresh w A) (hB : w.heap.size ≤ B0) (hg : A.grownBy A' row) (hr : ∀ r, row = some r → B0 ≤ r ∧ ∃ o : Obj, A.heap[r]? = some o ∧ o.isCells = false) : Fresh w A' :=
  h.grown hg (fun g e => by have := (hr g e).1; omega)
theorem name_split (l : List UInt8) (h1 : 1 ≤ l.length) (h2 : l.length ≤ 253) : nameB l = (lnsA [] l).all labB := by
  unfold nameB
  rw [decide_eq_true h1, decide_eq_true h2]; rfl
theorem clip_of_mem {l x : List UInt8} (h2 : l.length ≤ 253) (h : x ∈ lnsA [] l) : clip x = x := clip_self (by have := lnsA_mem l [] x h; simp at this; omega)
set_option maxRecDepth 100000 in
set_option maxHeartbeats 2000000 in
theorem name_yes (l : List UInt8) (w : World) (h1 : 1 ≤ l.length) (h2 : l.length ≤ 253) : Calls Tryd.prog 27 #[.string (tx l)] w fun e w' => e = .returned (.bool (nameB l)) ∧ Fresh w w' := by
  have hsz := tx_size l
  have HF : Hid (∀ W, Calls Tryd.prog 46 #[.string (tx l), .int .i64 253] W fun e w' => e = .returned (.bool true) ∧ W = w') := fun W => by
    have := fits_any (tx l) 253 W (by unfold maxLen; omega)
    rw [hsz, decide_eq_true h1, decide_eq_true h2] at this
    exact this
  have HNB := Lib.hid (name_split l h1 h2)
  have HCM := Lib.hid (fun x => @clip_of_mem l x h2)
  refine (callsIn_wide (n := 10)).1 ?_
  refine callsIn_of_wp_marks Tryd.func27 rfl trivial ?_ rfl
  simp only [Tryd.ntmps27, List.size_toArray, List.length_cons, List.length_nil, Nat.reduceAdd, Nat.reduceSub, Array.replicate_succ, Array.replicate_zero, List.push_toArray, List.append_toArray, List.nil_append, List.cons_append]
  gi_wp2_with (fail)
  refine ⟨trivial, ?_⟩
  refine (callsIn_wide.2 (HF.out _)).mono ?_
  rintro e w1 ⟨rfl, rfl⟩
  gi_wp2_with (fail)
  refine ⟨trivial, ?_⟩
  refine (callsIn_wide.2 (labels_any _ _)).mono ?_
  rintro e w1 ⟨rfl, rfl⟩
  gi_wp2
  obtain ⟨W0, hW0⟩ : ∃ W0, W0 = ((w.alloc (Obj.cells #[Value.bool false] 4)).alloc (Obj.cells #[Value.string (tx l)] 9)) := ⟨_, rfl⟩
  rw [← hW0]
  have b0 : Boxed W0 w.heap.size 4 (.bool false) := by
    rw [hW0]
    exact (Boxed.new w 4 _).alloc _
  have b1 : Boxed W0 (w.heap.size + 1) 9 (.string (tx l)) := by
    rw [hW0]
    have := Boxed.new (w.alloc (Obj.cells #[Value.bool false] 4)) 9 (.string (tx l))
    rw [World.size_alloc] at this
    exact this
  have hF0 : Fresh w W0 := by
    rw [hW0]
    exact ((Fresh.refl w).alloc _).alloc _
  have hS0 : W0.heap.size = w.heap.size + 2 := by
    rw [hW0]; simp
  clear hW0
  have hnl := lnsA_len [] l
  refine wpIn_rangeFunc_ownG rfl (by omega) (gf := 74) (lb := #[.pointer (some ⟨w.heap.size + 1, 0, none⟩)]) rfl trivial (enters_of Tryd.func74 (by kernel_rfl) rfl)
    (iter_stops l (w.heap.size + 1) W0 9 (by omega) (by omega) (by omega) b1.cell) (fun _ _ => trivial) (fun _ _ _ _ _ _ _ _ => trivial) (Below.refl _ _) (fun _ => rfl)
    (fun pre W => Boxed W w.heap.size 4 (.bool false) ∧ (∀ y ∈ pre, labB (clip y) = true) ∧ Fresh w W)
    (fun c pre W => c = .ret ∧ (∃ pre0 x, pre = pre0 ++ [x] ∧ labB (clip x) = false) ∧ Boxed W w.heap.size 4 (.bool false) ∧ Fresh w W)
    (fun s A B row hs hg hr => by
      obtain ⟨h1, h2, h3⟩ := hs
      exact ⟨box_own h1 hg hr, h2, fresh_own h3 hF0.size hg hr⟩)
    (fun c s A B row hs hg hr => by
      obtain ⟨h1, h2, h3, h4⟩ := hs
      exact ⟨h1, h2, box_own h3 hg hr, fresh_own h4 hF0.size hg hr⟩)
    ⟨b0, by simp, hF0⟩
    (fun x => { tmps := #[.string (tx l), undef, .pointer (some ⟨w.heap.size, 0, none⟩), .string (tx (clip x)), .string (tx l), .bool true, .bool false, .string (tx l), .func (.func 74) #[] #[.pointer (some ⟨w.heap.size + 1, 0, none⟩)], .string (tx (clip x)), undef, undef, undef], defers := [] }) ?assign ?body ?done ?stop
  case assign =>
    intro y x W K hK
    unfold encL
    gi_wp2
    exact hK
  case body =>
    rintro y pre x W ⟨hv, hgood, hF⟩ hlt
    have hcl := clip_len x
    have HLB := Lib.hid (label_any (tx (clip x)) W (by rw [tx_size]; unfold maxLen; omega))
    rw [tx_toList] at HLB
    have HB : Hid (∀ b, labB (clip x) = b → labB (clip x) = b) := fun b h => h
    have z0 := hv.cell
    have y0 := hv.frozen
    have HV := Lib.hid hv
    have HF := Lib.hid hF
    have HG := Lib.hid hgood
    clear hv hF hgood hcl
    cases hb : labB (clip x) with
    | false =>
      rw [hb] at HLB
      gi_wp2_with (fail)
      refine ⟨trivial, ?_⟩
      refine (CallsIn.inRound y (callsIn_wide.2 HLB.out)).mono ?_
      rintro e W1 ⟨rfl, rfl⟩
      gi_wp2
      exact ⟨(KeepsOthers.setCell _ _ _).from _, rfl, ⟨pre, x, rfl, hb⟩, HV.out.set _, HF.out.setCell (p := ⟨w.heap.size, 0, none⟩) (Nat.le_refl _) _⟩
    | true =>
      rw [hb] at HLB
      gi_wp2_with (fail)
      refine ⟨trivial, ?_⟩
      refine (CallsIn.inRound y (callsIn_wide.2 HLB.out)).mono ?_
      rintro e W1 ⟨rfl, rfl⟩
      gi_wp2
      refine ⟨(KeepsOthers.refl _).from _, trivial, HV.out, ?_, HF.out⟩
      intro z hz
      rcases List.mem_append.1 hz with h | h
      · exact HG.out z h
      · rw [List.mem_singleton.1 h]; exact hb
  case done =>
    rintro D xs W hD rfl ⟨hv, hgood, hF⟩ hK
    have HX : Hid (nameB l = true) := by
      rw [Hid, HNB.out, List.all_eq_true]
      intro x hx
      have := hgood x hx
      rwa [HCM.out x hx] at this
    have z0 := hv.cell
    have y0 := hv.frozen
    have A0 := Lib.hid hv
    have HF := Lib.hid hF
    have HK := Lib.hid hK
    have HD := Lib.hid hD
    clear hF hv hK hD hgood
    gi_wp2
    have K1 := (KeepsOthers.setCell W ⟨w.heap.size, 0, none⟩ (.bool true)).same D _ HK.out rfl
    have p0 := A0.out.set (.bool true)
    have hF1 := HF.out.setCell (p := ⟨w.heap.size, 0, none⟩) (Nat.le_refl _) (.bool true)
    generalize W.setCell ⟨w.heap.size, 0, none⟩ (.bool true) = W1 at *
    have g1 := grownBy_putObj' W1 D (.deferred none)
    have hr1 : ∀ r, some D = some r → W0.heap.size ≤ r ∧ ∃ o : Obj, W1.heap[r]? = some o ∧ o.isCells = false := fun r e => by cases e; exact ⟨HD.out, _, K1, rfl⟩
    have c0 := (box_own p0 g1 hr1).cell
    refine ⟨by simp, .inl ⟨_, _, rfl, run_takeDeferred K1, ?_⟩⟩
    refine ⟨.bool true, ?_, ?_⟩
    · simp [results, Tryd.f27, go_sem, c0]
    · rw [HX.out]
      exact ⟨rfl, fresh_own hF1 hF0.size g1 hr1⟩
  case stop =>
    rintro D c pre W hD hSp ⟨rfl, ⟨p0, x, rfl, hx⟩, hv, hF⟩ hK
    have HX : Hid (nameB l = false) := by
      rw [Hid, HNB.out, Bool.eq_false_iff]
      intro h
      have hm : x ∈ lnsA [] l := hSp.subset (by simp)
      have := List.all_eq_true.1 h x hm
      rw [HCM.out x hm] at hx
      rw [hx] at this; cases this
    have z0 := hv.cell
    have A0 := Lib.hid hv
    have HF := Lib.hid hF
    have HK := Lib.hid hK
    have HD := Lib.hid hD
    clear hx hF hv hK hD hSp
    gi_wp2
    have g1 := grownBy_putObj' W D (.deferred none)
    have hr1 : ∀ r, some D = some r → W0.heap.size ≤ r ∧ ∃ o : Obj, W.heap[r]? = some o ∧ o.isCells = false := fun r e => by cases e; exact ⟨HD.out, _, HK.out, rfl⟩
    have c0 := (box_own A0.out g1 hr1).cell
    refine ⟨by simp, .inl ⟨_, _, rfl, run_takeDeferred HK.out, ?_⟩⟩
    refine ⟨.bool false, ?_, ?_⟩
    · simp [results, Tryd.f27, go_sem, c0]
    · rw [HX.out]
      exact ⟨rfl, fresh_own HF.out hF0.size g1 hr1⟩
/-- Whatever text. -/
theorem name_any (l : List UInt8) (w : World) (hs : l.length ≤ maxLen) : Calls Tryd.prog 27 #[.string (tx l)] w fun e w' => e = .returned (.bool (nameB l)) ∧ Fresh w w' := by
  cases hf : (decide (1 ≤ l.length) && decide (l.length ≤ 253)) with
  | true =>
    simp only [Bool.and_eq_true, decide_eq_true_eq] at hf
    exact name_yes l w hf.1 hf.2
  | false =>
    have HX : Hid (nameB l = false) := by
      rw [Hid, nameB, hf]; rfl
    have HF : Hid (∀ W, Calls Tryd.prog 46 #[.string (tx l), .int .i64 253] W fun e w' => e = .returned (.bool false) ∧ W = w') := fun W => by
      have := fits_any (tx l) 253 W (by rw [tx_size]; exact hs)
      rw [tx_size, hf] at this
      exact this
    rw [HX.out]
    clear HX hf hs
    generalize tx l = s at *
    go_enter Tryd.func27, Tryd.ntmps27
    go_wp2_with (go_at_call 46; refine (HF.out _).mono ?_; rintro e w' ⟨rfl, rfl⟩)
    exact bodyPost_ret (v := .bool false) (by simp [results, Tryd.f27, go_sem]) rfl ⟨rfl, (Fresh.refl w).alloc _⟩
end Go.Proofs.YtfhhmajkacjbgaaDoor
namespace Go.Proofs.YtfhhmajkacjbgaaDoor
open Go.ChangeShapes Go.WideShapes Go.ChangeAt Go.RowKit
attribute [local go_sem ↓] Go.wp_at_zero Go.wp_at_succ

def namesM (l : List CM) : List ByteArray := l.map fun m => m.c.name
set_option maxRecDepth 100000 in
set_option maxHeartbeats 4000000 in
theorem check_any (p : PM) (w : World) (hT : Tabs w) (h : p.At w) (hs : p.pd.Sml) (hpc : ∀ m ∈ p.cs, m.c.ports.length ≤ m.pc) :
    Calls Tryd.prog 9 #[p.val] w fun e w' => e = .returned (.int .i64 (podE p.pd)) ∧ Fresh w w' := by
  obtain ⟨name, ns, rs, gr, ho, a, cap, cs⟩ := p
  have HT := Lib.hid hT
  have HROW := Lib.hid h.row
  have HINS := Lib.hid h.ins
  have HPC := Lib.hid hpc
  have d1 : name.size ≤ 20000 := hs.name
  have d2 : ns.size ≤ 20000 := hs.ns
  have d3 : cs.length ≤ 1000 := by have := hs.len; simpa [PM.pd] using this
  have HSM : Hid (∀ m ∈ cs, m.c.Sml) := fun m hm => hs.cs m.c (List.mem_map.2 ⟨m, hm, rfl⟩)
  have HNM : Hid (∀ W, Calls Tryd.prog 27 #[.string name] W fun e w' => e = .returned (.bool (nameB name.data.toList)) ∧ Fresh W w') := fun W => by
    have := name_any name.data.toList W (by unfold maxLen; simp; omega)
    rwa [tx_of] at this
  have HLB := Lib.hid (fun W => label_any ns W (by unfold maxLen; omega))
  have HP : Hid (podE (PM.mk name ns rs gr ho a cap cs).pd = if headE (PM.mk name ns rs gr ho a cap cs).pd = 0 then csE [] (cs.map (·.c)) else headE (PM.mk name ns rs gr ho a cap cs).pd) := rfl
  have HH : Hid (headE (PM.mk name ns rs gr ho a cap cs).pd = if nameB name.data.toList = true ∧ labB ns.data.toList = true then (if rs < 0 ∨ 2 < rs ∨ gr < 1 ∨ 3600 < gr then 7 else if cs.length = 0 then 16 else if 16 < cs.length then 18 else 0) else 13) := by
    rw [Hid, headE]
    simp only [PM.pd, List.length_map]
  have HA := Lib.hid (at_new w (.cells #[.string name, .string ns, .int .i64 rs, .int .i64 gr, .bool ho, .slice a cs.length cap] 25))
  have HF0 := Lib.hid ((Fresh.refl w).alloc (.cells #[.string name, .string ns, .int .i64 rs, .int .i64 gr, .bool ho, .slice a cs.length cap] 25))
  have HKR := Lib.hid (fun W => knownR_any rs W)
  have HWI := Lib.hid (fun W => within_any gr 3600 W)
  have hmm := @run_makeMap Tryd.prog
  have HMM := Lib.hid hmm
  clear hmm
  dsimp only [PM.val] at *
  clear h hs hT hpc
  generalize podE (PM.mk name ns rs gr ho a cap cs).pd = R at *
  generalize headE (PM.mk name ns rs gr ho a cap cs).pd = H at *
  cases hn : nameB name.data.toList with
  | false =>
    rw [hn] at HNM
    have HR : Hid (R = 13) := by
      have : H = 13 := by rw [HH.out, if_neg (by rw [hn]; simp)]
      rw [Hid, HP.out, this, if_neg (by decide)]
    clear HH HP hn
    go_enter Tryd.func9, Tryd.ntmps9
    go_wp2_with (fail)
    refine (HNM.out _).mono ?_
    rintro e w1 ⟨rfl, hf⟩
    have HF := Lib.hid (HF0.out.trans hf)
    clear hf
    go_wp2
    go_ret
    exact ⟨ret_int HR.out.symm, HF.out⟩
  | true =>
    rw [hn] at HNM
    cases hl : labB ns.data.toList with
    | false =>
      rw [hl] at HLB
      have HR : Hid (R = 13) := by
        have : H = 13 := by rw [HH.out, if_neg (by rw [hl]; simp)]
        rw [Hid, HP.out, this, if_neg (by decide)]
      clear HH HP hn hl
      go_enter Tryd.func9, Tryd.ntmps9
      go_wp2_with (fail)
      refine (HNM.out _).mono ?_
      rintro e w1 ⟨rfl, hf⟩
      obtain ⟨⟨q0, q1, q2, q3, q4, q5⟩, _⟩ := box6p (hf.at HA.out)
      have HF := Lib.hid (HF0.out.trans hf)
      clear hf
      go_wp2_with (fail)
      refine (HLB.out _).mono ?_
      rintro e w2 ⟨rfl, rfl⟩
      go_wp2
      go_ret
      exact ⟨ret_int HR.out.symm, HF.out⟩
    | true =>
      rw [hl] at HLB
      have HH2 : Hid (H = if rs < 0 ∨ 2 < rs ∨ gr < 1 ∨ 3600 < gr then 7 else if cs.length = 0 then 16 else if 16 < cs.length then 18 else 0) := by rw [Hid, HH.out, if_pos ⟨hn, hl⟩]
      clear HH hn hl
      go_enter Tryd.func9, Tryd.ntmps9
      go_wp2_with (fail)
      refine (HNM.out _).mono ?_
      rintro e w1 ⟨rfl, hf⟩
      have hA1 := hf.at HA.out
      have HF1 := Lib.hid (HF0.out.trans hf)
      obtain ⟨⟨q0, q1, q2, q3, q4, q5⟩, _⟩ := box6p hA1
      have HA1 := Lib.hid hA1
      clear hA1 hf HA HF0
      obtain ⟨b, hb⟩ : ∃ b, b = w.heap.size := ⟨_, rfl⟩
      rw [← hb] at q0 q1 q2 q3 q4 q5 HA1 ⊢
      clear hb
      go_wp2_with (fail)
      refine (HLB.out _).mono ?_
      rintro e w2 ⟨rfl, rfl⟩
      go_wp2_with (fail)
      refine (HKR.out _).mono ?_
      rintro e w2 ⟨rfl, rfl⟩
      by_cases hrs : 0 ≤ rs ∧ rs < 3
      case neg =>
        have e0 : (decide (0 ≤ rs) && decide (rs < 3)) = false := by
          rw [Bool.eq_false_iff]; intro e
          simp only [Bool.and_eq_true, decide_eq_true_eq] at e
          exact hrs e
        rw [e0]
        have HR : Hid (R = 7) := by
          have : H = 7 := by rw [HH2.out, if_pos (by omega)]
          rw [Hid, HP.out, this, if_neg (by decide)]
        clear HH2 HP hrs e0
        go_wp2
        all_goals try (exfalso; omega)
        go_ret
        exact ⟨ret_int HR.out.symm, HF1.out⟩
      rw [decide_eq_true hrs.1, decide_eq_true hrs.2]
      go_wp2_with (fail)
      refine (HWI.out _).mono ?_
      rintro e w2 ⟨rfl, rfl⟩
      by_cases hgr : 1 ≤ gr ∧ gr ≤ 3600
      case neg =>
        have e0 : (decide (1 ≤ gr) && decide (gr ≤ 3600)) = false := by
          rw [Bool.eq_false_iff]; intro e
          simp only [Bool.and_eq_true, decide_eq_true_eq] at e
          exact hgr e
        rw [e0]
        have HR : Hid (R = 7) := by
          have : H = 7 := by rw [HH2.out, if_pos (by omega)]
          rw [Hid, HP.out, this, if_neg (by decide)]
        clear HH2 HP hrs hgr e0
        go_wp2
        all_goals try (exfalso; omega)
        go_ret
        exact ⟨ret_int HR.out.symm, HF1.out⟩
      rw [decide_eq_true hgr.1, decide_eq_true hgr.2]
      have HH3 : Hid (H = if cs.length = 0 then 16 else if 16 < cs.length then 18 else 0) := by rw [Hid, HH2.out, if_neg (by omega)]
      clear HH2 hrs hgr
      by_cases h0 : cs.length = 0
      · have HR : Hid (R = 16) := by
          have : H = 16 := by rw [HH3.out, if_pos h0]
          rw [Hid, HP.out, this, if_neg (by decide)]
        clear HH3 HP
        go_wp2
        all_goals try (exfalso; omega)
        all_goals go_ret
        all_goals exact ⟨ret_int HR.out.symm, HF1.out⟩
      by_cases h16 : 16 < cs.length
      · have HR : Hid (R = 18) := by
          have : H = 18 := by rw [HH3.out, if_neg h0, if_pos h16]
          rw [Hid, HP.out, this, if_neg (by decide)]
        have e5 : ((cs.length : Int) == 0) = false := by rw [beq_eq_false_iff_ne]; omega
        clear HH3 HP
        go_wp2
        all_goals try (exfalso; omega)
        all_goals go_ret
        all_goals exact ⟨ret_int HR.out.symm, HF1.out⟩
      have HR0 : Hid (R = csE [] (cs.map (·.c))) := by
        have : H = 0 := by rw [HH3.out, if_neg h0, if_neg h16]
        rw [Hid, HP.out, if_pos this]
      clear HP HH3
      have hpos : 0 < cs.length := by omega
      have e5 : ((cs.length : Int) == 0) = false := by rw [beq_eq_false_iff_ne]; omega
      clear h0
      have hmm := HMM.out
      have p5 : (w1.alloc (.map #[] 0)).cell? ⟨b, 5, none⟩ = some (.slice a cs.length cap) := ((Fresh.refl w1).alloc _).cell q5
      go_wp2
      all_goals try (exfalso; omega)
      clear p5
      have HM0 := Lib.hid (seen_made w1)
      have HFM := Lib.hid ((Fresh.refl w1).alloc (.map #[] 0))
      generalize w1.alloc (.map #[] 0) = W0 at *
      have HBW : Hid (w.heap.size ≤ w1.heap.size) := HF1.out.size
      generalize hbm : w1.heap.size = bm at *
      clear hmm q0 q1 q2 q3 q4 q5 hbm
      go_loopw [43] (fun a43 wr => ∃ (k : Nat), a43 = .int .i64 (k : Int) ∧ k ≤ cs.length ∧ Hid (R = csE (namesM (cs.take k)) ((cs.drop k).map (·.c))) ∧ Hid (seenIs wr bm k (namesM (cs.take k))) ∧ Hid (Fresh w wr)) (fun a43 _ => cs.length - (intOf a43).toNat)
      case atStart => exact ⟨0, rfl, Nat.zero_le _, HR0.out, HM0.out, HF1.out.trans HFM.out⟩
      case round =>
        obtain ⟨k, rfl, hk, HE, HS, HF⟩ := hrel
        by_cases hlt : k < cs.length
        · obtain ⟨g, o1, rfl, hc⟩ := crow_form (HROW.out.move HF.out) hlt
          obtain ⟨c0, c1, c2, c3, c4, c5, c6⟩ := hc k hlt
          have HTK : Hid (namesM (cs.take (k + 1)) = namesM (cs.take k) ++ [cs[k].c.name]) := by
            rw [Hid, List.take_succ_eq_append_getElem hlt]
            unfold namesM
            rw [List.map_append]; rfl
          have HST : Hid (R = if ctE (namesM (cs.take k)) cs[k].c = 0 then csE (namesM (cs.take (k + 1))) ((cs.drop (k + 1)).map (·.c)) else ctE (namesM (cs.take k)) cs[k].c) := by
            rw [Hid, HE.out, List.drop_eq_getElem_cons hlt, List.map_cons, csE, HTK.out]
          have HQ : Hid (∀ W, Fresh w W → seenIs W bm k (namesM (cs.take k)) → Calls Tryd.prog 31 #[cs[k].val, .map (some bm)] W fun e w' => e = .returned (.int .i64 (ctE (namesM (cs.take k)) cs[k].c)) ∧ (ctE (namesM (cs.take k)) cs[k].c = 0 → seenIs w' bm (k + 1) (namesM (cs.take k) ++ [cs[k].c.name])) ∧ Fresh w w') := fun W f hsn =>
            fault_any cs[k] w W bm k _ HT.out (HINS.out _ (List.getElem_mem hlt)) (HSM.out _ (List.getElem_mem hlt)) (HPC.out _ (List.getElem_mem hlt)) f HBW.out (by omega) hsn
          clear hc
          generalize ctE (namesM (cs.take k)) cs[k].c = E at *
          generalize cs[k] = m at *
          obtain ⟨⟨s0, s1, lc, lp, n4, n5, le⟩, ca, cc, pa, pc, ea, ec⟩ := m
          dsimp only [CM.val] at *
          generalize lc.length = z1 at *
          generalize lp.length = z2 at *
          generalize le.length = z3 at *
          have i1 : (0 : Int) ≤ (k : Int) := by omega
          have i2 : (k : Int) < (cs.length : Int) := by omega
          have HFA := Lib.hid ((Fresh.refl wr).alloc (.cells #[.string s0, .string s1, .slice ca z1 cc, .slice pa z2 pc, .int .i64 n4, .int .i64 n5, .slice ea z3 ec] 53))
          have HQ2 := Lib.hid (HQ.out _ (HF.out.trans HFA.out) (HS.out.fresh HFA.out))
          by_cases hE : E = 0
          · have HN : Hid (R = csE (namesM (cs.take (k + 1))) ((cs.drop (k + 1)).map (·.c))) := by rw [Hid, HST.out, if_pos hE]
            subst hE
            clear HST
            go_wp2_with (fail)
            all_goals try (exfalso; omega)
            refine HQ2.out.mono ?_
            rintro e W1 ⟨rfl, hs5, hf⟩
            have HF3 := Lib.hid hf
            have HS5 := Lib.hid (hs5 trivial)
            clear hf hs5
            go_wp2
            all_goals try (exfalso; omega)
            go_roundw
            case rel => exact ⟨k + 1, by simp, by omega, HN.out, by rw [HTK.out]; exact HS5.out, HF3.out⟩
            case measure => simp [intOf]; omega
          · have HR : Hid (R = E) := by rw [Hid, HST.out, if_neg hE]
            have e0 : (E == 0) = false := by rw [beq_eq_false_iff_ne]; exact hE
            have e1 : (E != 0) = true := by simp [hE]
            clear HST
            go_wp2_with (fail)
            all_goals try (exfalso; omega)
            refine HQ2.out.mono ?_
            rintro e W1 ⟨rfl, hs5, hf⟩
            have HF3 := Lib.hid hf
            clear hf hs5
            go_wp2
            all_goals try (exfalso; omega)
            go_ret
            exact ⟨ret_int HR.out.symm, HF3.out⟩
        · obtain rfl : k = cs.length := by omega
          have HR : Hid (R = 0) := by rw [Hid, HE.out, List.drop_length]; rfl
          go_wp2
          all_goals try (exfalso; omega)
          go_ret
          exact ⟨ret_int HR.out.symm, HF.out⟩
end Go.Proofs.YtfhhmajkacjbgaaDoor
namespace Go.Proofs.YtfhhmajkacjbgaaDoor
open Go.ChangeShapes Go.WideShapes Go.ChangeAt Go.RowKit
attribute [local go_sem ↓] Go.wp_at_zero Go.wp_at_succ
variable {w : World}

/-! ### what Unquote reads -/
/-- A piece of a quoted text, and what it says. -/
def Item (p m : List UInt8) : Prop := (∃ c cs, p = c :: cs ∧ c.toNat ≠ 34) ∧ ∀ (b : Nat) (rest : List UInt8) (v : Value) (text : List UInt8) (w : World), Tabs w → text.length ≤ 100000 → Rdr w b (p ++ rest) v text → Calls Tryd.prog 70 #[.pointer (some ⟨b, 0, none⟩)] w (Reads w b rest (text ++ m) 0)
/-- Such pieces, one behind the other. -/
inductive Un : List UInt8 → List UInt8 → Prop
  | nil : Un [] []
  | step (p m src out : List UInt8) : Item p m → Un src out → Un (p ++ src) (m ++ out)
/-- What Unquote answers. -/
def unqRes (src out : List UInt8) : Ending := if out.length ≤ 4096 then .returned (.tuple #[.string (bs out), .int .i64 ((src.length : Int) + 2), .int .i64 0]) else .returned (.tuple #[.string ⟨#[]⟩, .int .i64 0, .int .i64 2])
def restLen (w : World) (b : Nat) : Nat := match w.cell? ⟨b, 0, none⟩ with
  | some (.string s) => s.size
  | _ => 0
theorem Rdr.restLen {w : World} {b : Nat} {rest : List UInt8} {v : Value} {text : List UInt8} (h : Rdr w b rest v text) : YtfhhmajkacjbgaaDoor.restLen w b = rest.length := by
  rw [YtfhhmajkacjbgaaDoor.restLen, h.c0]
  exact bs_size rest
set_option maxRecDepth 100000 in
set_option maxHeartbeats 4000000 in
theorem unquote_any (src out behind : List UInt8) (w : World) (hU : Un src out) (ho : out.length ≤ 100000) (hs : src.length + behind.length ≤ 1000000) (hT : Tabs w) :
    Calls Tryd.prog 43 #[.string (bs (34 :: (src ++ 34 :: behind)))] w fun e w' => e = unqRes src out ∧ Fresh w w' := by
  have HU := Lib.hid hU
  have HT := Lib.hid hT
  have HZ : Hid ((bs (34 :: (src ++ 34 :: behind))).size = src.length + behind.length + 2) := by rw [Hid, bs_size]; simp; omega
  obtain ⟨p1, p2, p3, p4⟩ := bs_cons 34 (src ++ 34 :: behind)
  generalize bs (34 :: (src ++ 34 :: behind)) = r at *
  have H0 : Hid (Rdr (w.alloc (.cells #[.string (bs (src ++ 34 :: behind)), .slice none 0 0] 103)) w.heap.size (src ++ 34 :: behind) (.slice none 0 0) []) :=
    ⟨at_new w _, World.ownsRow_nil _ _ _ _⟩
  have HF0 := Lib.hid ((Fresh.refl w).alloc (.cells #[.string (bs (src ++ 34 :: behind)), .slice none 0 0] 103))
  generalize bs (src ++ 34 :: behind) = r1 at *
  clear hU hT
  go_enter Tryd.func43, Tryd.ntmps43
  go_wp2
  go_loopw [4] (fun a4 wr => a4 = .int .i64 0 ∧ ∃ (t1 src2 out2 : List UInt8) (v : Value), Hid (Un src2 out2) ∧ Hid (out = t1 ++ out2) ∧ Hid (Rdr wr w.heap.size (src2 ++ 34 :: behind) v t1) ∧ Hid (Fresh w wr)) (fun _ wr => restLen wr w.heap.size)
  case atStart => exact ⟨rfl, [], src, out, .slice none 0 0, HU.out, rfl, H0.out, HF0.out⟩
  case round =>
    obtain ⟨rfl, t1, src2, out2, v, HU2, HO, HR, HF⟩ := hrel
    clear H0 HF0
    have hu := HU2.out
    rcases hu with _ | ⟨p, m, src3, out3, hi, hu3⟩
    · have HR2 : Hid (Rdr wr w.heap.size (34 :: behind) v t1) := HR.out
      have HO2 : Hid (out = t1) := by rw [Hid, HO.out, List.append_nil]
      clear HU2 HO HR
      go_wp2_with fail
      refine (mark_yes _ behind v t1 _ HR2.out).mono ?_
      rintro e w' ⟨rfl, rfl⟩
      have c0 := HR2.out.c0
      have c1 := HR2.out.c1
      have hb1 : r.size ≤ 1000002 := by rw [HZ.out]; omega
      have HZ2 : Hid ((bs (34 :: behind)).size = behind.length + 1) := by rw [Hid, bs_size]; rfl
      have hb2 : (bs (34 :: behind)).size ≤ 1000001 := by rw [HZ2.out]; omega
      have hb3 : (bs (34 :: behind)).size ≤ r.size := by rw [HZ2.out, HZ.out]; omega
      have HEQ : Hid ((r.size : Int) - ((bs (34 :: behind)).size : Int) + 1 = (src.length : Int) + 2) := by rw [Hid, HZ.out, HZ2.out]; omega
      generalize bs (34 :: behind) = r2 at *
      have hbuf := HR2.out.buf
      rcases hbuf with ⟨hl, ⟨rfl, hl0⟩ | ⟨g, cap, cur, rfl, hg1, hg2, hg3, hg4, hg5, hg6⟩⟩
      · obtain rfl : t1 = [] := by cases t1 with
          | nil => rfl
          | cons => simp at hl0
        have hcv := text_nil wr.drew
        clear hl hl0
        have HE : Hid (unqRes src out = .returned (.tuple #[.string (bs out), .int .i64 ((src.length : Int) + 2), .int .i64 0])) := by rw [Hid, unqRes, if_pos (by rw [HO2.out]; simp)]
        go_wp2
        have w1 : IntKind.i64.wrap ((r.size : Int) - (r2.size : Int)) = (r.size : Int) - (r2.size : Int) := IntWalk.i64_in _ (by omega)
        have w2 : IntKind.i64.wrap ((r.size : Int) - (r2.size : Int) + 1) = (r.size : Int) - (r2.size : Int) + 1 := IntWalk.i64_in _ (by omega)
        go_region_held3 (fun w' => (w'.cell? ⟨w.heap.size, 0, none⟩ = some (.string r2) ∧ w'.cell? ⟨w.heap.size, 1, none⟩ = some (.slice none 0 0) ∧ (convert 101 9 (.slice none 0 0)).run Tryd.prog w' = .ok (.string ⟨#[]⟩) w')) (go_keep) ((fail))
        all_goals
          go_wp2
          refine bodyPost_ret (v := .tuple #[.string (bs []), .int .i64 ((r.size : Int) - (r2.size : Int) + 1), .int .i64 0]) (by simp [results, Tryd.results43, go_sem, bs]) rfl ⟨?_, HF.out.drew⟩
          rw [HE.out, HO2.out, HEQ.out]
      · have hcv : (convert 101 9 (.slice (some ⟨g, 0, none⟩) t1.length cap)).run Tryd.prog wr.drew = .ok (.string (bs t1)) wr.drew := (Buf.text HR2.out.buf.drew).2
        clear hl hg1 hg2 hg3 hg4 hg5 hg6
        by_cases h4 : t1.length ≤ 4096
        · have h4' : ¬ 4096 < t1.length := by omega
          have HE : Hid (unqRes src out = .returned (.tuple #[.string (bs out), .int .i64 ((src.length : Int) + 2), .int .i64 0])) := by rw [Hid, unqRes, if_pos (by rw [HO2.out]; exact h4)]
          go_wp2
          have w1 : IntKind.i64.wrap ((r.size : Int) - (r2.size : Int)) = (r.size : Int) - (r2.size : Int) := IntWalk.i64_in _ (by omega)
          have w2 : IntKind.i64.wrap ((r.size : Int) - (r2.size : Int) + 1) = (r.size : Int) - (r2.size : Int) + 1 := IntWalk.i64_in _ (by omega)
          go_region_held3 (fun w' => (w'.cell? ⟨w.heap.size, 0, none⟩ = some (.string r2) ∧ w'.cell? ⟨w.heap.size, 1, none⟩ = some (.slice (some ⟨g, 0, none⟩) t1.length cap) ∧ (convert 101 9 (.slice (some ⟨g, 0, none⟩) t1.length cap)).run Tryd.prog w' = .ok (.string (bs t1)) w')) (go_keep) ((fail))
          all_goals
            go_wp2
            refine bodyPost_ret (v := .tuple #[.string (bs t1), .int .i64 ((r.size : Int) - (r2.size : Int) + 1), .int .i64 0]) (by simp [results, Tryd.results43, go_sem]) rfl ⟨?_, HF.out.drew⟩
            rw [HE.out, HO2.out, HEQ.out]
        · have h4' : 4096 < t1.length := by omega
          have HE : Hid (unqRes src out = .returned (.tuple #[.string ⟨#[]⟩, .int .i64 0, .int .i64 2])) := by rw [Hid, unqRes, if_neg (by rw [HO2.out]; exact h4)]
          go_wp2
          refine bodyPost_ret (v := .tuple #[.string ⟨#[]⟩, .int .i64 0, .int .i64 2]) (by simp [results, Tryd.results43, go_sem]) rfl ⟨?_, HF.out⟩
          rw [HE.out]
    · obtain ⟨⟨c, cs, rfl, hc⟩, hI⟩ := hi
      have HR2 : Hid (Rdr wr w.heap.size ((c :: cs) ++ (src3 ++ 34 :: behind)) v t1) := by rw [Hid, ← List.append_assoc]; exact HR.out
      have HO2 : Hid (out = (t1 ++ m) ++ out3) := by rw [Hid, HO.out, List.append_assoc]
      have HI := Lib.hid (hI w.heap.size (src3 ++ 34 :: behind) v t1 wr (HT.out.move HF.out) (by have := congrArg List.length HO.out; rw [List.length_append] at this; omega) HR2.out)
      have HU3 := Lib.hid hu3
      have HM : Hid (restLen wr w.heap.size = ((c :: cs) ++ (src3 ++ 34 :: behind)).length) := HR2.out.restLen
      clear HU2 hu3 hI HR
      go_wp2_with fail
      refine (mark_no _ c (cs ++ (src3 ++ 34 :: behind)) v t1 _ hc HR2.out).mono ?_
      rintro e w' ⟨rfl, rfl⟩
      go_wp2_with fail
      refine HI.out.mono ?_
      rintro e w2 ⟨rfl, ⟨v2, hr2⟩, hb2⟩
      have HR3 := Lib.hid hr2
      have HF3 := Lib.hid (HF.out.below hb2 (Nat.le_refl _))
      clear hr2 hb2
      go_wp2
      go_roundw
      case rel => exact ⟨rfl, t1 ++ m, src3, out3, v2, HU3.out, HO2.out, HR3.out, HF3.out⟩
      case measure => rw [HM.out, HR3.out.restLen]; simp; omega
end Go.Proofs.YtfhhmajkacjbgaaDoor
namespace Go.Proofs.YtfhhmajkacjbgaaDoor
open Go.ChangeShapes Go.WideShapes Go.ChangeAt Go.RowKit
variable {w : World}

/-- The bytes behind a lead byte: so many, the first of them in a range of its own. -/
def contOK : List UInt8 → Nat → Nat → Nat → Bool
  | _, 0, _, _ => true
  | [], _ + 1, _, _ => false
  | b :: l, n + 1, lo, hi => decide (lo ≤ b.toNat ∧ b.toNat ≤ hi) && contOK l n 128 191
theorem valid_lead (c : UInt8) (l : List UInt8) (n lo hi : Nat) (hc : 128 ≤ c.toNat) (hn : n = 1 ∨ n = 2 ∨ n = 3) (h1 : Lib.firstT c.toNat % 8 = n + 1) (h2 : Lib.accLo (Lib.firstT c.toNat / 16) = lo) (h3 : Lib.accHi (Lib.firstT c.toNat / 16) = hi) :
    Lib.validD (c :: l) = (contOK l n lo hi && Lib.validD (l.drop n)) := by
  rw [Lib.validD_lead (c :: l) (by simp) (by simpa using hc)]
  simp only [List.getD_cons_zero, List.getD_cons_succ, h1, h2, h3]
  rcases hn with rfl | rfl | rfl
  · rcases l with _ | ⟨a, l⟩
    · simp [Lib.checkN, contOK]
    · by_cases ha : lo ≤ a.toNat ∧ a.toNat ≤ hi
      · rw [Lib.checkN, if_pos rfl, if_neg (by simp; omega)]
        simp [contOK, ha]
      · rw [Lib.checkN, if_pos rfl, if_pos (by simp; omega)]
        simp [contOK, ha]
  · rcases l with _ | ⟨a, _ | ⟨b, l⟩⟩
    · simp [Lib.checkN, contOK]
    · simp [Lib.checkN, contOK]
    · by_cases ha : lo ≤ a.toNat ∧ a.toNat ≤ hi
      · by_cases hb : 128 ≤ b.toNat ∧ b.toNat ≤ 191
        · rw [Lib.checkN, if_neg (by omega), if_pos rfl, if_neg (by simp; omega)]
          simp [contOK, ha, hb]
        · rw [Lib.checkN, if_neg (by omega), if_pos rfl, if_pos (by simp; omega)]
          simp [contOK, hb]
      · rw [Lib.checkN, if_neg (by omega), if_pos rfl, if_pos (by simp; omega)]
        simp [contOK, ha]
  · rcases l with _ | ⟨a, _ | ⟨b, _ | ⟨d, l⟩⟩⟩
    · simp [Lib.checkN, contOK]
    · simp [Lib.checkN, contOK]
    · simp [Lib.checkN, contOK]
    · by_cases ha : lo ≤ a.toNat ∧ a.toNat ≤ hi
      · by_cases hb : 128 ≤ b.toNat ∧ b.toNat ≤ 191
        · by_cases hd : 128 ≤ d.toNat ∧ d.toNat ≤ 191
          · rw [Lib.checkN, if_neg (by omega), if_neg (by omega), if_pos rfl, if_neg (by simp; omega)]
            simp [contOK, ha, hb, hd]
          · rw [Lib.checkN, if_neg (by omega), if_neg (by omega), if_pos rfl, if_pos (by simp; omega)]
            simp [contOK, hd]
        · rw [Lib.checkN, if_neg (by omega), if_neg (by omega), if_pos rfl, if_pos (by simp; omega)]
          simp [contOK, hb]
      · rw [Lib.checkN, if_neg (by omega), if_neg (by omega), if_pos rfl, if_pos (by simp; omega)]
        simp [contOK, ha]
theorem valid_bad (c : UInt8) (l : List UInt8) (hc : 128 ≤ c.toNat) (h1 : Lib.firstT c.toNat = 241) : Lib.validD (c :: l) = false := by
  rw [Lib.validD_lead (c :: l) (by simp) (by simpa using hc)]
  simp [Lib.checkN, h1]
theorem drop_at (s : ByteArray) (i : Nat) (h : i < s.size) : s.data.toList.drop i = s[i] :: s.data.toList.drop (i + 1) := by
  rw [List.drop_eq_getElem_cons (by simpa using h)]; rfl
/-- What a lead byte asks for. -/
def Lead (s : ByteArray) (i n lo hi : Nat) : Prop := Lib.validD (s.data.toList.drop i) = (contOK (s.data.toList.drop (i + 1)) n lo hi && Lib.validD (s.data.toList.drop (i + 1 + n)))
theorem lead_of (s : ByteArray) (i n lo hi : Nat) (h : i < s.size) (hc : 128 ≤ s[i].toNat) (hn : n = 1 ∨ n = 2 ∨ n = 3) (h1 : Lib.firstT s[i].toNat % 8 = n + 1) (h2 : Lib.accLo (Lib.firstT s[i].toNat / 16) = lo) (h3 : Lib.accHi (Lib.firstT s[i].toNat / 16) = hi) : Lead s i n lo hi := by
  unfold Lead
  rw [drop_at s i h, valid_lead _ _ n lo hi hc hn h1 h2 h3, List.drop_drop]
theorem lead_ascii (s : ByteArray) (i : Nat) (h : i < s.size) (hc : s[i].toNat < 128) : Lead s i 0 128 191 := by
  unfold Lead
  rw [drop_at s i h, Lib.validD_cons _ _ hc, contOK, Bool.true_and, Nat.add_zero]
theorem lead_bad (s : ByteArray) (i : Nat) (h : i < s.size) (hc : 128 ≤ s[i].toNat) (h1 : Lib.firstT s[i].toNat = 241) : Lib.validD (s.data.toList.drop i) = false := by
  rw [drop_at s i h, valid_bad _ _ hc h1]
/-- So far the bytes behind are well. -/
def Cont (s : ByteArray) (i n lo hi k lo' hi' : Nat) : Prop := contOK (s.data.toList.drop (i + 1)) n lo hi = contOK (s.data.toList.drop (i + k)) (n + 1 - k) lo' hi'
theorem cont_short {s : ByteArray} {i n lo hi k lo' hi' : Nat} (h : Cont s i n lo hi k lo' hi') (hk : k ≤ n) (hs : s.size ≤ i + k) : contOK (s.data.toList.drop (i + 1)) n lo hi = false := by
  rw [h, List.drop_eq_nil_of_le (by simpa using hs), show n + 1 - k = (n - k) + 1 by omega, contOK]
theorem cont_no {s : ByteArray} {i n lo hi k lo' hi' : Nat} (h : Cont s i n lo hi k lo' hi') (hk : k ≤ n) (hs : i + k < s.size) (hb : s[i + k].toNat < lo' ∨ hi' < s[i + k].toNat) : contOK (s.data.toList.drop (i + 1)) n lo hi = false := by
  rw [h, drop_at s (i + k) hs, show n + 1 - k = (n - k) + 1 by omega, contOK, decide_eq_false (by omega), Bool.false_and]
theorem cont_yes {s : ByteArray} {i n lo hi k lo' hi' : Nat} (h : Cont s i n lo hi k lo' hi') (hk : k ≤ n) (hs : i + k < s.size) (hb : lo' ≤ s[i + k].toNat ∧ s[i + k].toNat ≤ hi') : Cont s i n lo hi (k + 1) 128 191 := by
  unfold Cont at h ⊢
  rw [h, drop_at s (i + k) hs, show n + 1 - k = (n - k) + 1 by omega, contOK, decide_eq_true hb, Bool.true_and, show n + 1 - (k + 1) = n - k by omega, Nat.add_assoc]
theorem cont_end {s : ByteArray} {i n lo hi lo' hi' : Nat} (h : Cont s i n lo hi (n + 1) lo' hi') : contOK (s.data.toList.drop (i + 1)) n lo hi = true := by
  rw [h, Nat.sub_self, contOK]
end Go.Proofs.YtfhhmajkacjbgaaDoor
namespace Go.Proofs.YtfhhmajkacjbgaaDoor
open Go.Lib
theorem dec2 (n c b1 b2 b3 : Nat) (hn : 2 ≤ n) (hc : 194 ≤ c) (hc2 : c < 224) (h1 : 128 ≤ b1) (h2 : b1 ≤ 191) : (decodeN n c b1 b2 b3).2 = 2 := by
  rw [decodeN, if_neg (by omega), if_pos (by omega), if_pos (by omega)]
theorem dec3 (n c b1 b2 b3 : Nat) (hn : 3 ≤ n) (hc : 224 ≤ c) (hc2 : c < 240) (h1 : 128 ≤ b1) (h2 : b1 ≤ 191) (h3 : 128 ≤ b2) (h4 : b2 ≤ 191) (e1 : c = 224 → 160 ≤ b1) (e2 : c = 237 → b1 ≤ 159) : (decodeN n c b1 b2 b3).2 = 3 := by
  rw [decodeN, if_neg (by omega), if_neg (by omega), if_pos (by omega), if_pos (by omega)]
theorem dec4 (n c b1 b2 b3 : Nat) (hn : 4 ≤ n) (hc : 240 ≤ c) (hc2 : c < 245) (h1 : 128 ≤ b1) (h2 : b1 ≤ 191) (h3 : 128 ≤ b2) (h4 : b2 ≤ 191) (h5 : 128 ≤ b3) (h6 : b3 ≤ 191) (e1 : c = 240 → 144 ≤ b1) (e2 : c = 244 → b1 ≤ 143) : (decodeN n c b1 b2 b3).2 = 4 := by
  rw [decodeN, if_neg (by omega), if_neg (by omega), if_neg (by omega), if_pos (by omega), if_pos (by omega)]
theorem dec_bs (l : List UInt8) (h : l ≠ []) : decodeGo (bs l) = decodeN l.length (l.getD 0 0).toNat (l.getD 1 0).toNat (l.getD 2 0).toNat (l.getD 3 0).toNat := by
  have hs : (bs l).size ≠ 0 := by rw [bs_size]; exact fun e => h (List.eq_nil_of_length_eq_zero e)
  have g : ∀ i, (bs l).get! i = l.getD i 0 := fun i => by
    simp [bs, ByteArray.get!, List.getD_eq_getElem?_getD]
    rfl
  rw [decodeGo, if_neg hs, decode_at, Nat.sub_zero, bs_size, g, g, g, g]
/-- A character's bytes behind its first one. -/
structure Tail (c : UInt8) (cs : List UInt8) : Prop where
  high : ∀ b ∈ cs, 128 ≤ b.toNat
  valid : validD (c :: cs) = true
  len : cs.length ≤ 3
  dec : ∀ rest, (decodeGo (bs (c :: cs ++ rest))).2 = (c :: cs).length
theorem cont1 {l : List UInt8} {lo hi : Nat} (h : contOK l 1 lo hi = true) : ∃ a l2, l = a :: l2 ∧ lo ≤ a.toNat ∧ a.toNat ≤ hi := by
  cases l with
  | nil => simp [contOK] at h
  | cons a l2 => simp [contOK] at h; exact ⟨a, l2, rfl, h⟩
theorem cont2 {l : List UInt8} {lo hi : Nat} (h : contOK l 2 lo hi = true) : ∃ a b l2, l = a :: b :: l2 ∧ (lo ≤ a.toNat ∧ a.toNat ≤ hi) ∧ 128 ≤ b.toNat ∧ b.toNat ≤ 191 := by
  rcases l with _ | ⟨a, _ | ⟨b, l2⟩⟩
  · simp [contOK] at h
  · simp [contOK] at h
  · simp [contOK] at h; exact ⟨a, b, l2, rfl, h.1, h.2⟩
theorem cont3 {l : List UInt8} {lo hi : Nat} (h : contOK l 3 lo hi = true) : ∃ a b d l2, l = a :: b :: d :: l2 ∧ (lo ≤ a.toNat ∧ a.toNat ≤ hi) ∧ (128 ≤ b.toNat ∧ b.toNat ≤ 191) ∧ 128 ≤ d.toNat ∧ d.toNat ≤ 191 := by
  rcases l with _ | ⟨a, _ | ⟨b, _ | ⟨d, l2⟩⟩⟩
  · simp [contOK] at h
  · simp [contOK] at h
  · simp [contOK] at h
  · simp [contOK] at h; exact ⟨a, b, d, l2, rfl, h.1, h.2.1, h.2.2⟩
theorem tail1 {c a : UInt8} (h0 : 194 ≤ c.toNat) (h1 : c.toNat < 224) (h2 : 128 ≤ a.toNat) (h3 : a.toNat ≤ 191) (hv : validD [c, a] = true) : Tail c [a] :=
  ⟨by simp; omega, hv, by simp, fun rest => by
    rw [dec_bs _ (by simp)]
    exact dec2 _ _ _ _ _ (by simp) h0 h1 h2 h3⟩
theorem tail2 {c a b : UInt8} (h0 : 224 ≤ c.toNat) (h1 : c.toNat < 240) (h2 : 128 ≤ a.toNat) (h3 : a.toNat ≤ 191) (h4 : 128 ≤ b.toNat) (h5 : b.toNat ≤ 191) (e1 : c.toNat = 224 → 160 ≤ a.toNat) (e2 : c.toNat = 237 → a.toNat ≤ 159) (hv : validD [c, a, b] = true) : Tail c [a, b] :=
  ⟨by simp; omega, hv, by simp, fun rest => by
    rw [dec_bs _ (by simp)]
    exact dec3 _ _ _ _ _ (by simp) h0 h1 h2 h3 h4 h5 e1 e2⟩
theorem tail3 {c a b d : UInt8} (h0 : 240 ≤ c.toNat) (h1 : c.toNat < 245) (h2 : 128 ≤ a.toNat) (h3 : a.toNat ≤ 191) (h4 : 128 ≤ b.toNat) (h5 : b.toNat ≤ 191) (h6 : 128 ≤ d.toNat) (h7 : d.toNat ≤ 191) (e1 : c.toNat = 240 → 144 ≤ a.toNat) (e2 : c.toNat = 244 → a.toNat ≤ 143) (hv : validD [c, a, b, d] = true) : Tail c [a, b, d] :=
  ⟨by simp; omega, hv, by simp, fun rest => by
    rw [dec_bs _ (by simp)]
    exact dec4 _ _ _ _ _ (by simp) h0 h1 h2 h3 h4 h5 h6 h7 e1 e2⟩
theorem split1 {c : UInt8} {l : List UInt8} {lo hi : Nat} (hc : 128 ≤ c.toNat) (h0 : 194 ≤ c.toNat) (h1 : c.toNat < 224) (hlo : 128 ≤ lo) (hhi : hi ≤ 191) (k1 : firstT c.toNat % 8 = 1 + 1) (k2 : accLo (firstT c.toNat / 16) = lo) (k3 : accHi (firstT c.toNat / 16) = hi) (hv : validD (c :: l) = true) : ∃ cs l2, l = cs ++ l2 ∧ Tail c cs ∧ validD l2 = true := by
  rw [valid_lead c l 1 lo hi hc (.inl rfl) k1 k2 k3, Bool.and_eq_true] at hv
  obtain ⟨a, l2, rfl, ha1, ha2⟩ := cont1 hv.1
  refine ⟨[a], l2, rfl, tail1 h0 h1 (by omega) (by omega) ?_, hv.2⟩
  rw [valid_lead c [a] 1 lo hi hc (.inl rfl) k1 k2 k3]
  simp [contOK, ha1, ha2, validD_nil]
theorem split2 {c : UInt8} {l : List UInt8} {lo hi : Nat} (hc : 128 ≤ c.toNat) (h0 : 224 ≤ c.toNat) (h1 : c.toNat < 240) (hlo : 128 ≤ lo) (hhi : hi ≤ 191) (e1 : c.toNat = 224 → 160 ≤ lo) (e2 : c.toNat = 237 → hi ≤ 159) (k1 : firstT c.toNat % 8 = 2 + 1) (k2 : accLo (firstT c.toNat / 16) = lo) (k3 : accHi (firstT c.toNat / 16) = hi) (hv : validD (c :: l) = true) : ∃ cs l2, l = cs ++ l2 ∧ Tail c cs ∧ validD l2 = true := by
  rw [valid_lead c l 2 lo hi hc (.inr (.inl rfl)) k1 k2 k3, Bool.and_eq_true] at hv
  obtain ⟨a, b, l2, rfl, ⟨ha1, ha2⟩, hb1, hb2⟩ := cont2 hv.1
  refine ⟨[a, b], l2, rfl, tail2 h0 h1 (by omega) (by omega) hb1 hb2 (fun e => by have := e1 e; omega) (fun e => by have := e2 e; omega) ?_, hv.2⟩
  rw [valid_lead c [a, b] 2 lo hi hc (.inr (.inl rfl)) k1 k2 k3]
  simp [contOK, ha1, ha2, hb1, hb2, validD_nil]
theorem split3 {c : UInt8} {l : List UInt8} {lo hi : Nat} (hc : 128 ≤ c.toNat) (h0 : 240 ≤ c.toNat) (h1 : c.toNat < 245) (hlo : 128 ≤ lo) (hhi : hi ≤ 191) (e1 : c.toNat = 240 → 144 ≤ lo) (e2 : c.toNat = 244 → hi ≤ 143) (k1 : firstT c.toNat % 8 = 3 + 1) (k2 : accLo (firstT c.toNat / 16) = lo) (k3 : accHi (firstT c.toNat / 16) = hi) (hv : validD (c :: l) = true) : ∃ cs l2, l = cs ++ l2 ∧ Tail c cs ∧ validD l2 = true := by
  rw [valid_lead c l 3 lo hi hc (.inr (.inr rfl)) k1 k2 k3, Bool.and_eq_true] at hv
  obtain ⟨a, b, d, l2, rfl, ⟨ha1, ha2⟩, ⟨hb1, hb2⟩, hd1, hd2⟩ := cont3 hv.1
  refine ⟨[a, b, d], l2, rfl, tail3 h0 h1 (by omega) (by omega) hb1 hb2 hd1 hd2 (fun e => by have := e1 e; omega) (fun e => by have := e2 e; omega) ?_, hv.2⟩
  rw [valid_lead c [a, b, d] 3 lo hi hc (.inr (.inr rfl)) k1 k2 k3]
  simp [contOK, ha1, ha2, hb1, hb2, hd1, hd2, validD_nil]
theorem lead_split (c : UInt8) (l : List UInt8) (hc : 128 ≤ c.toNat) (hv : validD (c :: l) = true) : ∃ cs l2, l = cs ++ l2 ∧ Tail c cs ∧ validD l2 = true := by
  have c0 : ¬ c.toNat < 128 := by omega
  by_cases c1 : c.toNat < 194
  · rw [valid_bad c l hc (by simp [firstT, c0, c1])] at hv; cases hv
  by_cases c2 : c.toNat < 224
  · exact split1 hc (by omega) c2 (Nat.le_refl 128) (Nat.le_refl 191) (by simp [firstT, c0, c1, c2]) (by simp [firstT, accLo, c0, c1, c2]) (by simp [firstT, accHi, c0, c1, c2]) hv
  by_cases c3 : c.toNat = 224
  · exact split2 (lo := 160) (hi := 191) hc (by omega) (by omega) (by omega) (by omega) (by omega) (by omega) (by rw [c3]; decide) (by rw [c3]; decide) (by rw [c3]; decide) hv
  by_cases c4 : c.toNat < 237
  · exact split2 (lo := 128) (hi := 191) hc (by omega) (by omega) (by omega) (by omega) (by omega) (by omega) (by simp [firstT, c0, c1, c2, c3, c4]) (by simp [firstT, accLo, c0, c1, c2, c3, c4]) (by simp [firstT, accHi, c0, c1, c2, c3, c4]) hv
  by_cases c5 : c.toNat = 237
  · exact split2 (lo := 128) (hi := 159) hc (by omega) (by omega) (by omega) (by omega) (by omega) (by omega) (by rw [c5]; decide) (by rw [c5]; decide) (by rw [c5]; decide) hv
  by_cases c6 : c.toNat < 240
  · exact split2 (lo := 128) (hi := 191) hc (by omega) (by omega) (by omega) (by omega) (by omega) (by omega) (by simp [firstT, c0, c1, c2, c3, c4, c5, c6]) (by simp [firstT, accLo, c0, c1, c2, c3, c4, c5, c6]) (by simp [firstT, accHi, c0, c1, c2, c3, c4, c5, c6]) hv
  by_cases c7 : c.toNat = 240
  · exact split3 (lo := 144) (hi := 191) hc (by omega) (by omega) (by omega) (by omega) (by omega) (by omega) (by rw [c7]; decide) (by rw [c7]; decide) (by rw [c7]; decide) hv
  by_cases c8 : c.toNat < 244
  · exact split3 (lo := 128) (hi := 191) hc (by omega) (by omega) (by omega) (by omega) (by omega) (by omega) (by simp [firstT, c0, c1, c2, c3, c4, c5, c6, c7, c8]) (by simp [firstT, accLo, c0, c1, c2, c3, c4, c5, c6, c7, c8]) (by simp [firstT, accHi, c0, c1, c2, c3, c4, c5, c6, c7, c8]) hv
  by_cases c9 : c.toNat = 244
  · exact split3 (lo := 128) (hi := 143) hc (by omega) (by omega) (by omega) (by omega) (by omega) (by omega) (by rw [c9]; decide) (by rw [c9]; decide) (by rw [c9]; decide) hv
  · rw [valid_bad c l hc (by simp [firstT, c0, c1, c2, c3, c4, c5, c6, c7, c8, c9])] at hv; cases hv
end Go.Proofs.YtfhhmajkacjbgaaDoor
