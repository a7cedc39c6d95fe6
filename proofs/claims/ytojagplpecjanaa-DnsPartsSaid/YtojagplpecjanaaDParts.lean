/-
  What dns.Parts returns, for every name.
-/
import Derived.Test.YtojagplpecjanaaDName
import Derived.Test.YtojagplpecjanaaDClone
import Derived.Maps.AppendAt
import Derived.Deep.Onto
namespace Go.Proofs.Ytojagplpecjanaa
open Go.ChangeShapes Go.WideShapes Go.ChangeAt Go.RowKit Go.Shelf
attribute [local go_sem] Oper.semAt_some
variable {w : World}

theorem Fresh.grownBy {w w' : World} (hf : Fresh w w') (row : Option Nat) : w.grownBy w' row := ⟨hf.os, hf.tape, hf.output, hf.size, fun k hk _ => hf.block k hk⟩
theorem keeps_fresh {W W' : World} (h : Fresh W W') : KeepsOthers W W' := KeepsOthers.of_grownBy (h.grownBy none) (fun j o e => by cases e)
theorem row_shape {w : World} {B : Nat} {v : Value} {l : List (List UInt8)} (h : SBuf w B v l) : ∃ o c, v = .slice o l.length c := by
  rcases h.2 with ⟨h1, h2⟩ | ⟨g, cap, c2, h1, _⟩
  · exact ⟨none, 0, by rw [h1, h2]⟩
  · exact ⟨_, _, h1⟩
theorem sbuf_own {A A' : World} {B0 : Nat} {row : Option Nat} {B : Nat} {v : Value} {l : List (List UInt8)} (h : SBuf A B v l) (hg : A.grownBy A' row) (hr : ∀ r, row = some r → B0 ≤ r ∧ ∃ o : Obj, A.heap[r]? = some o ∧ o.isCells = false) : SBuf A' B v l := by
  refine World.ownsRow.kept h hg ?_
  rcases h.2 with ⟨rfl, _⟩ | ⟨g, cap, cur, rfl, _, hgb, _⟩
  · exact .inl rfl
  · refine .inr fun e' => ?_
    obtain ⟨_, o, ho, hc⟩ := hr g (by simpa [Value.ownBlock] using e'.symm)
    rw [hgb] at ho; cases ho; cases hc
/-- What lies where behind the append. -/
def PartsAt (W w W2 w3 : World) (B : Nat) (v v' : Value) (l : List (List UInt8)) : Prop :=
  Boxed W2 B 24 v ∧ Boxed w3 B 24 v ∧ Boxed (w3.setCell ⟨B, 0, none⟩ v') B 24 v' ∧ SBuf (w3.setCell ⟨B, 0, none⟩ v') w.heap.size v' l ∧ KeepsOthers W2 (w3.setCell ⟨B, 0, none⟩ v') ∧ Below w.heap.size W2 (w3.setCell ⟨B, 0, none⟩ v') ∧ Fresh W.drew W2
attribute [-go_sem] Go.Builtin.append_
set_option maxRecDepth 100000 in
set_option maxHeartbeats 4000000 in
theorem parts_any (l : List UInt8) (w : World) (hn : nameB l = true) : Calls Try.prog 6 #[.string (tx l)] w fun e w' => ∃ v, e = .returned v ∧ SBuf w' w.heap.size v (lnsA [] l) ∧ Fresh w w' := by
  have hsz := tx_size l
  have h2 : l.length ≤ 253 := by
    have := hn
    unfold nameB at this
    simp only [Bool.and_eq_true, decide_eq_true_eq] at this
    exact this.1.2
  have HNM := Lib.hid (fun W => name_any l W (by unfold maxLen; omega))
  rw [hn] at HNM
  have HMAP : Hid ((lnsA [] l).map clip = lnsA [] l) := by
    rw [Hid]
    conv => rhs; rw [← List.map_id (lnsA [] l)]
    exact List.map_congr_left (fun x hx => clip_of_mem h2 hx)
  clear hn
  refine (callsIn_wide (n := 10)).1 ?_
  refine callsIn_of_wp_marks Try.func6 rfl trivial ?_ rfl
  simp only [Try.ntmps6, List.size_toArray, List.length_cons, List.length_nil, Nat.reduceAdd, Nat.reduceSub, Array.replicate_succ, Array.replicate_zero, List.push_toArray, List.append_toArray, List.nil_append, List.cons_append]
  gi_wp2_with (fail)
  refine ⟨trivial, ?_⟩
  refine (callsIn_wide.2 (HNM.out _)).mono ?_
  rintro e w1 ⟨rfl, hf1⟩
  gi_wp2_with (fail)
  refine ⟨trivial, ?_⟩
  refine (callsIn_wide.2 (labels_any _ _)).mono ?_
  rintro e w2 ⟨rfl, rfl⟩
  gi_wp2
  obtain ⟨W0, hW0⟩ : ∃ W0, W0 = ((w1.alloc (Obj.cells #[Value.slice none 0 0] 24)).alloc (Obj.cells #[Value.string (tx l)] 9)) := ⟨_, rfl⟩
  rw [← hW0]
  have b0 : Boxed W0 w1.heap.size 24 (.slice none 0 0) := by
    rw [hW0]
    exact (Boxed.new w1 24 _).alloc _
  have b1 : Boxed W0 (w1.heap.size + 1) 9 (.string (tx l)) := by
    rw [hW0]
    have := Boxed.new (w1.alloc (Obj.cells #[Value.slice none 0 0] 24)) 9 (.string (tx l))
    rw [World.size_alloc] at this
    exact this
  have hF0 : Fresh w W0 := by
    rw [hW0]
    exact (hf1.alloc _).alloc _
  have hS0 : W0.heap.size = w1.heap.size + 2 := by
    rw [hW0]; simp
  have hS1 := hf1.size
  clear hW0 hf1
  have hnl := lnsA_len [] l
  refine wpIn_rangeFunc_ownG rfl (by omega) (gf := 16) (lb := #[.pointer (some ⟨w1.heap.size + 1, 0, none⟩)]) rfl trivial (enters_of Try.func16 (by kernel_rfl) rfl)
    (iter_stops l (w1.heap.size + 1) W0 9 (by omega) (by omega) (by omega) b1.cell) (fun _ _ => trivial) (fun _ _ _ _ _ _ _ _ => trivial) (Below.refl _ _) (fun _ => rfl)
    (fun pre W => (∃ v, Boxed W w1.heap.size 24 v ∧ SBuf W w.heap.size v (pre.map clip)) ∧ Fresh w W)
    (fun _ _ _ => False)
    (fun s A B row hs hg hr => by
      obtain ⟨⟨v, h1, h2⟩, h3⟩ := hs
      exact ⟨⟨v, box_own h1 hg hr, sbuf_own h2 hg hr⟩, fresh_own h3 hF0.size hg hr⟩)
    (fun _ _ _ _ _ hs _ _ => hs)
    ⟨⟨_, b0, World.ownsRow_nil _ _ _ _⟩, hF0⟩
    (fun x => { tmps := #[.string (tx l), undef, .slice none 0 0, .pointer (some ⟨w1.heap.size, 0, none⟩), .string (tx (clip x)), .string (tx l), .bool true, .bool false, .string (tx l), .func (.func 16) #[] #[.pointer (some ⟨w1.heap.size + 1, 0, none⟩)], .string (tx (clip x)), undef, undef, undef, undef, undef, undef], defers := [] }) ?assign ?body ?done ?stop
  case assign =>
    intro y x W K hK
    unfold encL
    gi_wp2
    exact hK
  case body =>
    rintro y pre x W ⟨⟨v, hv, hrow⟩, hF⟩ hlt
    obtain ⟨o, c, rfl⟩ := row_shape hrow
    obtain ⟨i0, hi, hz0, hz1, hz2⟩ := info_parts info9
    have hcl := clip_len x
    have HCL := Lib.hid (fun W => clone_any (tx (clip x)) W (by rw [tx_size]; omega))
    have hpl : pre.length ≤ 1000000 := by omega
    have hml : (pre.map clip).length = pre.length := by simp
    rw [hml] at hv hrow
    have hFs := hF.size
    have HF := Lib.hid hF
    have hc1 := hv.cell
    have hf1 := hv.frozen
    have hmx : Try.prog.follows .mixedOrders = true := by kernel_rfl
    have hsnoc : ∀ (A : World) (u : Value), A.ownsRow w.heap.size 9 1 u ((pre.map clip).length + 1) (scells (pre.map clip) ++ [.string (tx (clip x))]) → SBuf A w.heap.size u ((pre ++ [x]).map clip) := fun A u h => by
      rw [List.map_append]
      exact SBuf.more h
    have HSN := Lib.hid hsnoc
    have happ : ∀ W2, Fresh W.drew W2 → ∃ g cap w3, (Builtin.append_ #[24, 24] 24 #[.slice o pre.length c, .slice (some ⟨W2.heap.size, 0, none⟩) 1 1]).run Try.prog (W2.alloc (.cells #[.string (tx (clip x))] 9)) = .ok (.slice (some ⟨g, 0, none⟩) (pre.length + 1) cap) w3 ∧ PartsAt W w W2 w3 w1.heap.size (.slice o pre.length c) (.slice (some ⟨g, 0, none⟩) (pre.length + 1) cap) ((pre ++ [x]).map clip) := fun W2 hf2 => by
      have hv2 : Boxed W2 w1.heap.size 24 (.slice o pre.length c) := Boxed.kept (W := W.drew) hv (hf2.grownBy none) (by simp)
      have hrow2 : SBuf W2 w.heap.size (.slice o pre.length c) (pre.map clip) := SBuf.fresh (w := W.drew) hrow hf2
      have hs2 : w.heap.size ≤ W2.heap.size := Nat.le_trans hFs hf2.size
      obtain ⟨v', w3, hr, hown', hgrow, _⟩ := run_append_own (P := Try.prog) (w := W2.alloc (.cells #[.string (tx (clip x))] 9)) w.heap.size 24 24 9 i0 (.string ⟨#[]⟩) 1 16 Try.underlying24 hi hz0 hz1 hz2 rfl (by decide) (.slice o pre.length c) (pre.map clip).length (scells (pre.map clip)) (World.ownsRow.alloc hrow2 _) ⟨W2.heap.size, 0, none⟩ 1 1 [.string (tx (clip x))] rfl (cell_one_new _ _ _) (by simp [Value.oneCell']) (by rw [hml]; unfold maxLen; omega) (by rw [hml]; omega) (by rw [World.size_alloc]; omega)
      obtain ⟨g', cap', rfl⟩ := ownsRow_succ hown'
      obtain ⟨hv3, hv4, hr4, hk4, hb4⟩ := hv2.appended (by decide) hrow2 hs2 hS1 hown' hgrow
      rw [hml] at *
      exact ⟨g', cap', w3, hr, hv2, hv3, hv4, hsnoc _ _ (by rw [hml]; exact hr4), hk4, hb4, hf2⟩
    have HAPP := Lib.hid happ
    have HFF := Lib.hid hF
    clear hsnoc hrow hv hF hcl hFs happ
    generalize tx (clip x) = S at *
    gi_wp2
    gi_region_with_o (refine ⟨trivial, ?_⟩; refine (CallsIn.inRound y (callsIn_wide.2 (HCL.out _))).mono ?_; rintro e W2 ⟨rfl, hf2⟩; obtain ⟨g', cap', w3, hrun, hfacts⟩ := HAPP.out W2 hf2; have HFA := Lib.hid hfacts; have hc2 := hfacts.1.cell; have hc3 := (hfacts.1.alloc (.cells #[.string S] 9)).cell; have hc4 := hfacts.2.1.cell; have hy4 := hfacts.2.1.frozen; clear hfacts)
    all_goals gi_wp2
    all_goals exact ⟨(((KeepsOthers.drew W).trans (keeps_fresh hf2)).trans HFA.out.2.2.2.2.1).from _, trivial, ⟨_, HFA.out.2.2.1, HFA.out.2.2.2.1⟩, (HF.out.drew.trans hf2).below HFA.out.2.2.2.2.2.1 (Nat.le_refl _)⟩
  case done =>
    rintro D xs W hD rfl ⟨⟨v, hv, hrow⟩, hF⟩ hK
    rw [HMAP.out] at hrow
    obtain ⟨o, c, rfl⟩ := row_shape hrow
    have z0 := hv.cell
    have y0 := hv.frozen
    have HF := Lib.hid hF
    have HROW := Lib.hid hrow
    have HK := Lib.hid hK
    have HD := Lib.hid hD
    clear hF hrow hK hD
    gi_wp2
    have g1 := grownBy_putObj' W D (.deferred none)
    have hr1 : ∀ r, some D = some r → W0.heap.size ≤ r ∧ ∃ o : Obj, W.heap[r]? = some o ∧ o.isCells = false := fun r e => by cases e; exact ⟨HD.out, _, HK.out, rfl⟩
    refine ⟨by simp, .inl ⟨_, _, rfl, run_takeDeferred HK.out, ?_⟩⟩
    exact ⟨_, results_tmp rfl _ _ _, _, rfl, sbuf_own HROW.out g1 hr1, fresh_own HF.out hF0.size g1 hr1⟩
  case stop =>
    rintro D c pre W _ _ h _
    exact h.elim
end Go.Proofs.Ytojagplpecjanaa
