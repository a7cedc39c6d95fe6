/-
  What dns.Name returns, for every text.
-/
import Derived.Test.YtphjhlnjfcfdcaaDIter
import Derived.Test.YtphjhlnjfcfdcaaDLabel
import Derived.RangeFuncWrites
namespace Go.Proofs.Ytphjhlnjfcfdcaa
open Go.ChangeShapes Go.WideShapes Go.ChangeAt Go.RowKit Go.Shelf
attribute [local go_sem] Oper.semAt_some
variable {w : World}

theorem box_own {A A' : World} {B0 : Nat} {row : Option Nat} {b t : Nat} {v : Value} (h : Boxed A b t v) (hg : A.grownBy A' row) (hr : ∀ r, row = some r → B0 ≤ r ∧ ∃ o : Obj, A.heap[r]? = some o ∧ o.isCells = false) : Boxed A' b t v :=
  h.kept hg (fun e => by
    obtain ⟨_, o, ho, hc⟩ := hr b e.symm
    rw [show A.heap[b]? = _ from h] at ho; cases ho; cases hc)
theorem fresh_own {w A A' : World} {B0 : Nat} {row : Option Nat} (h : Fresh w A) (hB : w.heap.size ≤ B0) (hg : A.grownBy A' row) (hr : ∀ r, row = some r → B0 ≤ r ∧ ∃ o : Obj, A.heap[r]? = some o ∧ o.isCells = false) : Fresh w A' :=
  h.grown hg (fun g e => by have := (hr g e).1; omega)
theorem name_split (l : List UInt8) (h1 : 1 ≤ l.length) (h2 : l.length ≤ 253) : nameB l = (lnsA [] l).all labB := by
  unfold nameB
  rw [decide_eq_true h1, decide_eq_true h2]; rfl
theorem clip_of_mem {l x : List UInt8} (h2 : l.length ≤ 253) (h : x ∈ lnsA [] l) : clip x = x := clip_self (by have := lnsA_mem l [] x h; simp at this; omega)
set_option maxRecDepth 100000 in
set_option maxHeartbeats 2000000 in
theorem name_yes (l : List UInt8) (w : World) (h1 : 1 ≤ l.length) (h2 : l.length ≤ 253) : Calls Try.prog 63 #[.string (tx l)] w fun e w' => e = .returned (.bool (nameB l)) ∧ Fresh w w' := by
  have hsz := tx_size l
  have HF : Hid (∀ W, Calls Try.prog 84 #[.string (tx l), .int .i64 253] W fun e w' => e = .returned (.bool true) ∧ W = w') := fun W => by
    have := fits_any (tx l) 253 W (by unfold maxLen; omega)
    rw [hsz, decide_eq_true h1, decide_eq_true h2] at this
    exact this
  have HNB := Lib.hid (name_split l h1 h2)
  have HCM := Lib.hid (fun x => @clip_of_mem l x h2)
  refine (callsIn_wide (n := 10)).1 ?_
  refine callsIn_of_wp_marks Try.func63 rfl trivial ?_ rfl
  simp only [Try.ntmps63, List.size_toArray, List.length_cons, List.length_nil, Nat.reduceAdd, Nat.reduceSub, Array.replicate_succ, Array.replicate_zero, List.push_toArray, List.append_toArray, List.nil_append, List.cons_append]
  gi_wp2_with (fail)
  refine ⟨trivial, ?_⟩
  refine (callsIn_wide.2 (HF.out _)).mono ?_
  rintro e w1 ⟨rfl, rfl⟩
  gi_wp2_with (fail)
  refine ⟨trivial, ?_⟩
  refine (callsIn_wide.2 (labels_any _ _)).mono ?_
  rintro e w1 ⟨rfl, rfl⟩
  gi_wp2
  obtain ⟨W0, hW0⟩ : ∃ W0, W0 = ((w.alloc (Obj.cells #[Value.bool false] 4)).alloc (Obj.cells #[Value.string (tx l)] 9)) := ⟨_, rfl⟩
  rw [← hW0]
  have b0 : Boxed W0 w.heap.size 4 (.bool false) := by
    rw [hW0]
    exact (Boxed.new w 4 _).alloc _
  have b1 : Boxed W0 (w.heap.size + 1) 9 (.string (tx l)) := by
    rw [hW0]
    have := Boxed.new (w.alloc (Obj.cells #[Value.bool false] 4)) 9 (.string (tx l))
    rw [World.size_alloc] at this
    exact this
  have hF0 : Fresh w W0 := by
    rw [hW0]
    exact ((Fresh.refl w).alloc _).alloc _
  have hS0 : W0.heap.size = w.heap.size + 2 := by
    rw [hW0]; simp
  clear hW0
  have hnl := lnsA_len [] l
  refine wpIn_rangeFunc_ownG rfl (by omega) (gf := 97) (lb := #[.pointer (some ⟨w.heap.size + 1, 0, none⟩)]) rfl trivial (enters_of Try.func97 (by kernel_rfl) rfl)
    (iter_stops l (w.heap.size + 1) W0 9 (by omega) (by omega) (by omega) b1.cell) (fun _ _ => trivial) (fun _ _ _ _ _ _ _ _ => trivial) (Below.refl _ _) (fun _ => rfl)
    (fun pre W => Boxed W w.heap.size 4 (.bool false) ∧ (∀ y ∈ pre, labB (clip y) = true) ∧ Fresh w W)
    (fun c pre W => c = .ret ∧ (∃ pre0 x, pre = pre0 ++ [x] ∧ labB (clip x) = false) ∧ Boxed W w.heap.size 4 (.bool false) ∧ Fresh w W)
    (fun s A B row hs hg hr => by
      obtain ⟨h1, h2, h3⟩ := hs
      exact ⟨box_own h1 hg hr, h2, fresh_own h3 hF0.size hg hr⟩)
    (fun c s A B row hs hg hr => by
      obtain ⟨h1, h2, h3, h4⟩ := hs
      exact ⟨h1, h2, box_own h3 hg hr, fresh_own h4 hF0.size hg hr⟩)
    ⟨b0, by simp, hF0⟩
    (fun x => { tmps := #[.string (tx l), undef, .pointer (some ⟨w.heap.size, 0, none⟩), .string (tx (clip x)), .string (tx l), .bool true, .bool false, .string (tx l), .func (.func 97) #[] #[.pointer (some ⟨w.heap.size + 1, 0, none⟩)], .string (tx (clip x)), undef, undef, undef], defers := [] }) ?assign ?body ?done ?stop
  case assign =>
    intro y x W K hK
    unfold encL
    gi_wp2
    exact hK
  case body =>
    rintro y pre x W ⟨hv, hgood, hF⟩ hlt
    have hcl := clip_len x
    have HLB := Lib.hid (label_any (tx (clip x)) W (by rw [tx_size]; unfold maxLen; omega))
    rw [tx_toList] at HLB
    have HB : Hid (∀ b, labB (clip x) = b → labB (clip x) = b) := fun b h => h
    have z0 := hv.cell
    have y0 := hv.frozen
    have HV := Lib.hid hv
    have HF := Lib.hid hF
    have HG := Lib.hid hgood
    clear hv hF hgood hcl
    cases hb : labB (clip x) with
    | false =>
      rw [hb] at HLB
      gi_wp2_with (fail)
      refine ⟨trivial, ?_⟩
      refine (CallsIn.inRound y (callsIn_wide.2 HLB.out)).mono ?_
      rintro e W1 ⟨rfl, rfl⟩
      gi_wp2
      exact ⟨(KeepsOthers.setCell _ _ _).from _, rfl, ⟨pre, x, rfl, hb⟩, HV.out.set _, HF.out.setCell (p := ⟨w.heap.size, 0, none⟩) (Nat.le_refl _) _⟩
    | true =>
      rw [hb] at HLB
      gi_wp2_with (fail)
      refine ⟨trivial, ?_⟩
      refine (CallsIn.inRound y (callsIn_wide.2 HLB.out)).mono ?_
      rintro e W1 ⟨rfl, rfl⟩
      gi_wp2
      refine ⟨(KeepsOthers.refl _).from _, trivial, HV.out, ?_, HF.out⟩
      intro z hz
      rcases List.mem_append.1 hz with h | h
      · exact HG.out z h
      · rw [List.mem_singleton.1 h]; exact hb
  case done =>
    rintro D xs W hD rfl ⟨hv, hgood, hF⟩ hK
    have HX : Hid (nameB l = true) := by
      rw [Hid, HNB.out, List.all_eq_true]
      intro x hx
      have := hgood x hx
      rwa [HCM.out x hx] at this
    have z0 := hv.cell
    have y0 := hv.frozen
    have A0 := Lib.hid hv
    have HF := Lib.hid hF
    have HK := Lib.hid hK
    have HD := Lib.hid hD
    clear hF hv hK hD hgood
    gi_wp2
    have K1 := (KeepsOthers.setCell W ⟨w.heap.size, 0, none⟩ (.bool true)).same D _ HK.out rfl
    have p0 := A0.out.set (.bool true)
    have hF1 := HF.out.setCell (p := ⟨w.heap.size, 0, none⟩) (Nat.le_refl _) (.bool true)
    generalize W.setCell ⟨w.heap.size, 0, none⟩ (.bool true) = W1 at *
    have g1 := grownBy_putObj' W1 D (.deferred none)
    have hr1 : ∀ r, some D = some r → W0.heap.size ≤ r ∧ ∃ o : Obj, W1.heap[r]? = some o ∧ o.isCells = false := fun r e => by cases e; exact ⟨HD.out, _, K1, rfl⟩
    have c0 := (box_own p0 g1 hr1).cell
    refine ⟨by simp, .inl ⟨_, _, rfl, run_takeDeferred K1, ?_⟩⟩
    refine ⟨.bool true, ?_, ?_⟩
    · simp [results, Try.f63, go_sem, c0]
    · rw [HX.out]
      exact ⟨rfl, fresh_own hF1 hF0.size g1 hr1⟩
  case stop =>
    rintro D c pre W hD hSp ⟨rfl, ⟨p0, x, rfl, hx⟩, hv, hF⟩ hK
    have HX : Hid (nameB l = false) := by
      rw [Hid, HNB.out, Bool.eq_false_iff]
      intro h
      have hm : x ∈ lnsA [] l := hSp.subset (by simp)
      have := List.all_eq_true.1 h x hm
      rw [HCM.out x hm] at hx
      rw [hx] at this; cases this
    have z0 := hv.cell
    have A0 := Lib.hid hv
    have HF := Lib.hid hF
    have HK := Lib.hid hK
    have HD := Lib.hid hD
    clear hx hF hv hK hD hSp
    gi_wp2
    have g1 := grownBy_putObj' W D (.deferred none)
    have hr1 : ∀ r, some D = some r → W0.heap.size ≤ r ∧ ∃ o : Obj, W.heap[r]? = some o ∧ o.isCells = false := fun r e => by cases e; exact ⟨HD.out, _, HK.out, rfl⟩
    have c0 := (box_own A0.out g1 hr1).cell
    refine ⟨by simp, .inl ⟨_, _, rfl, run_takeDeferred HK.out, ?_⟩⟩
    refine ⟨.bool false, ?_, ?_⟩
    · simp [results, Try.f63, go_sem, c0]
    · rw [HX.out]
      exact ⟨rfl, fresh_own HF.out hF0.size g1 hr1⟩
/-- Whatever text. -/
theorem name_any (l : List UInt8) (w : World) (hs : l.length ≤ maxLen) : Calls Try.prog 63 #[.string (tx l)] w fun e w' => e = .returned (.bool (nameB l)) ∧ Fresh w w' := by
  cases hf : (decide (1 ≤ l.length) && decide (l.length ≤ 253)) with
  | true =>
    simp only [Bool.and_eq_true, decide_eq_true_eq] at hf
    exact name_yes l w hf.1 hf.2
  | false =>
    have HX : Hid (nameB l = false) := by
      rw [Hid, nameB, hf]; rfl
    have HF : Hid (∀ W, Calls Try.prog 84 #[.string (tx l), .int .i64 253] W fun e w' => e = .returned (.bool false) ∧ W = w') := fun W => by
      have := fits_any (tx l) 253 W (by rw [tx_size]; exact hs)
      rw [tx_size, hf] at this
      exact this
    rw [HX.out]
    clear HX hf hs
    generalize tx l = s at *
    go_enter Try.func63, Try.ntmps63
    go_wp2_with (go_at_call 84; refine (HF.out _).mono ?_; rintro e w' ⟨rfl, rfl⟩)
    exact bodyPost_ret (v := .bool false) (by simp [results, Try.f63, go_sem]) rfl ⟨rfl, (Fresh.refl w).alloc _⟩
end Go.Proofs.Ytphjhlnjfcfdcaa
