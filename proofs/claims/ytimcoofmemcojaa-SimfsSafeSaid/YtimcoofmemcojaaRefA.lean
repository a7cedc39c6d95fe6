/-
  The document's answer for layer 4: set.
-/
import Derived.Test.YtimcoofmemcojaaRef9
import Derived.Laws.OwnMore
namespace Go.Proofs.Ytimcoofmemcojaa
open Go.ChangeShapes Go.WideShapes Go.ChangeAt Go.RowKit
variable {w : World}
theorem info78 : (Try.prog.info? 78).map (fun i => (i.zero, i.size, i.bytes)) = some (some (.agg #[.string ⟨#[]⟩, .string ⟨#[]⟩]), 2, 32) := by kernel_rfl
def RSt.setF (r : RSt) (i : Nat) (x : RFile) : RSt := { r with files := r.files.set i x }
theorem rf_one (l : List RFile) : ∀ x ∈ rfCells l, x.oneCell' = true := by
  intro x hx
  obtain ⟨d, _, hx⟩ := List.mem_flatMap.1 hx
  simp only [List.mem_cons, List.not_mem_nil, or_false] at hx
  rcases hx with rfl | rfl <;> rfl
theorem rf_set : ∀ (l : List RFile) (i : Nat) (x : RFile), ((rfCells l).set (i * 2) (.string x.1)).set (i * 2 + 1) (.string x.2) = rfCells (l.set i x)
  | [], _, _ => by simp [rfCells]
  | u :: l, 0, x => by simp [rfCells]
  | u :: l, i + 1, x => by
    have ih := rf_set l i x
    have e : rfCells (u :: l) = .string u.1 :: .string u.2 :: rfCells l := rfl
    rw [e, show (i + 1) * 2 = i * 2 + 1 + 1 by omega, show i * 2 + 1 + 1 + 1 = (i * 2 + 1) + 1 + 1 by omega]
    simp only [List.set_cons_succ]
    rw [ih]; rfl
theorem rf_len (l : List RFile) : (rfCells l).length = l.length * 2 := by
  induction l with
  | nil => rfl
  | cons u l ih =>
    show (Value.string u.1 :: .string u.2 :: rfCells l).length = _
    rw [List.length_cons, List.length_cons, ih, List.length_cons]; omega
theorem rf_get : ∀ (l : List RFile) (i : Nat) (u : RFile), l[i]? = some u → (rfCells l)[i * 2]? = some (.string u.1) ∧ (rfCells l)[i * 2 + 1]? = some (.string u.2)
  | [], _, _, h => by simp at h
  | x :: l, 0, u, h => by
    injection h with h
    subst h
    exact ⟨rfl, rfl⟩
  | x :: l, i + 1, u, h => by
    have e : rfCells (x :: l) = .string x.1 :: .string x.2 :: rfCells l := rfl
    rw [e, show (i + 1) * 2 = i * 2 + 1 + 1 by omega]
    simp only [List.getElem?_cons_succ]
    exact rf_get l i u h
/-- Three boxes in a row: the state's, another, the result's. -/
structure SBox (W : World) (b0 : Nat) (cs : Array Value) (o : Obj) (z : Array Value) : Prop where
  bx : W.heap[b0]? = some (.cells cs 31 (0, 0))
  dx : W.heap[b0 + 1]? = some o
  rx : W.heap[b0 + 2]? = some (.cells z 31 (0, 0))
theorem SBox.fresh {W W' : World} {b0 : Nat} {cs : Array Value} {o : Obj} {z : Array Value} (h : SBox W b0 cs o z) (f : Fresh W W') : SBox W' b0 cs o z := ⟨f.at h.bx, f.at h.dx, f.at h.rx⟩
theorem SBox.grown {W W' : World} {b0 X : Nat} {cs : Array Value} {o : Obj} {z : Array Value} (h : SBox W b0 cs o z) (g : W.grownBy W' (some X)) (hX : b0 + 2 < X) : SBox W' b0 cs o z :=
  ⟨grown_keep g h.bx (by simp; omega), grown_keep g h.dx (by simp; omega), grown_keep g h.rx (by simp; omega)⟩
theorem SBox.set {W : World} {b0 : Nat} {cs : Array Value} {o : Obj} {z : Array Value} (h : SBox W b0 cs o z) (j : Nat) (v : Value) : SBox (W.setCell ⟨b0, j, none⟩ v) b0 (cs.setIfInBounds j v) o z := by
  refine ⟨?_, grown_keep (grown_set W b0 j v) h.dx (by simp), grown_keep (grown_set W b0 j v) h.rx (by simp)⟩
  simp [World.setCell, Array.getElem?_modify, h.bx]
theorem sbox_made (w : World) (cs z : Array Value) (dc : Array Value) (T : TypeId) : SBox (((w.alloc (.cells cs 31)).alloc (.cells dc T)).alloc (.cells z 31)) w.heap.size cs (.cells dc T (0, 0)) z := by
  refine ⟨at_alloc (at_alloc (at_new w _)), ?_, ?_⟩
  · have := at_new (w.alloc (.cells cs 31)) (.cells dc T)
    rw [World.size_alloc] at this
    exact at_alloc this
  · have := at_new ((w.alloc (.cells cs 31)).alloc (.cells dc T)) (.cells z 31)
    rw [World.size_alloc, World.size_alloc] at this
    exact this
set_option maxRecDepth 100000 in
set_option maxHeartbeats 4000000 in
theorem rset_any (r : RSt) (R : RLay) (i : Nat) (x : RFile) (w : World) (hi : i < r.files.length) (hl : r.files.length ≤ 900000) (hat : RAt w r R) :
    Calls Try.prog 39 #[rval r R, .int .i64 (i : Int), .agg #[.string x.1, .string x.2]] w fun e w' => ∃ R', e = .returned (rval (r.setF i x) R') ∧ RAt w' (r.setF i x) R' ∧ Fresh w w' := by
  obtain ⟨i0, hi0, hz0, hz1, hz2⟩ := info_parts info78
  have HAT := Lib.hid hat
  obtain ⟨fl, nl, sl, wl, left, steps, down⟩ := r
  obtain ⟨fa, fc, na, nc, sa, sc, wa, wc⟩ := R
  obtain ⟨x1, x2⟩ := x
  dsimp only [rval] at *
  have HB0 := Lib.hid (sbox_made w #[.slice fa fl.length fc, .slice na nl.length nc, .slice sa sl.length sc, .slice wa wl.length wc, .int .i64 left, .int .i64 steps, .bool down] #[.slice none 0 0, .slice none 0 0, .slice none 0 0, .slice none 0 0, .int .i64 0, .int .i64 0, .bool false] #[.string x1, .string x2] 78)
  have HF0 := Lib.hid ((((Fresh.refl w).alloc (.cells #[.slice fa fl.length fc, .slice na nl.length nc, .slice sa sl.length sc, .slice wa wl.length wc, .int .i64 left, .int .i64 steps, .bool down] 31)).alloc (.cells #[.string x1, .string x2] 78)).alloc (.cells #[.slice none 0 0, .slice none 0 0, .slice none 0 0, .slice none 0 0, .int .i64 0, .int .i64 0, .bool false] 31))
  have hm0 : fl.length ≤ maxLen := by unfold maxLen; omega
  have hm3 : fl.length * 32 ≤ 140737488355328 := by omega
  have HI := Lib.hid hi
  have HLEN := Lib.hid hl
  have HR1 := Lib.hid (rf_one fl)
  clear hat
  go_enter Try.func39, Try.ntmps39
  go_wp2_with (at_builtin; refine Hid.out ?_)
  refine Lib.hid ?_
  have hsz : (((w.alloc (.cells #[.slice fa fl.length fc, .slice na nl.length nc, .slice sa sl.length sc, .slice wa wl.length wc, .int .i64 left, .int .i64 steps, .bool down] 31)).alloc (.cells #[.string x1, .string x2] 78)).alloc (.cells #[.slice none 0 0, .slice none 0 0, .slice none 0 0, .slice none 0 0, .int .i64 0, .int .i64 0, .bool false] 31)).heap.size = w.heap.size + 1 + 1 + 1 := by simp
  generalize ((w.alloc (.cells #[.slice fa fl.length fc, .slice na nl.length nc, .slice sa sl.length sc, .slice wa wl.length wc, .int .i64 left, .int .i64 steps, .bool down] 31)).alloc (.cells #[.string x1, .string x2] 78)).alloc (.cells #[.slice none 0 0, .slice none 0 0, .slice none 0 0, .slice none 0 0, .int .i64 0, .int .i64 0, .bool false] 31) = W0 at *
  have hX : (W0.alloc (.cells #[] 78)).heap[w.heap.size + 1 + 1 + 1]? = some (.cells #[] 78 (0, 0)) := by
    have := at_new W0 (.cells #[] 78)
    rw [hsz] at this; exact this
  have fE := (Fresh.refl W0).alloc (.cells #[] 78)
  have hrow : (W0.alloc (.cells #[] 78)).ownsRow 0 78 2 (.slice fa fl.length fc) fl.length (rfCells fl) := owns_move HAT.out.files (HF0.out.trans fE)
  refine wpList_copy _ rfl _ _ 27 rfl 78 i0 _ 2 32 Try.underlying27 hi0 hz0 hz1 hz2 rfl (by decide) (w.heap.size + 1 + 1 + 1) rfl hX (.slice fa fl.length fc) fl.length (rfCells fl) rfl hrow HR1.out hm0 hm3 ?_
  intro g cap w3 hown hgrow hat
  have hg1 : w.heap.size + 2 < g := by have := (World.ownsRow.lt hown g rfl).1; omega
  have HOW := Lib.hid hown
  have hb3 := (HB0.out.fresh fE).grown hgrow (by omega)
  have hF3 : Fresh w w3 := Below.grown (HF0.out.trans fE) hgrow (HF0.out.trans fE).size (fun k e => by cases e; omega)
  have HB3 := Lib.hid hb3
  have HF3 := Lib.hid hF3
  clear hX fE hrow hown hgrow hat hb3 hF3 HB0 HF0 hsz
  have p0 := cell_of_at HB3.out.bx (i := 0) rfl
  have q0 : w3.frozen? ⟨w.heap.size, 0, none⟩ = false := by simp [World.frozen?, HB3.out.bx]
  go_upto_region 2 with (fail)
  have HB4 := Lib.hid (HB3.out.set 0 (.slice (some ⟨g, 0, none⟩) fl.length cap))
  have HO4 := Lib.hid (own_other HOW.out (grown_set w3 w.heap.size 0 (.slice (some ⟨g, 0, none⟩) fl.length cap)) (fun k e => by have := far_one hg1 e; omega))
  have HF4 := Lib.hid (HF3.out.setCell (p := ⟨w.heap.size, 0, none⟩) (Nat.le_refl _) (.slice (some ⟨g, 0, none⟩) fl.length cap))
  clear p0 q0 HB3 HOW HF3
  generalize w3.setCell ⟨w.heap.size, 0, none⟩ (.slice (some ⟨g, 0, none⟩) fl.length cap) = w4 at *
  have p0 : w4.cell? ⟨w.heap.size, 0, none⟩ = some (.slice (some ⟨g, 0, none⟩) fl.length cap) := cell_of_at HB4.out.bx (i := 0) rfl
  have d0 : w4.cell? ⟨w.heap.size + 1, 0, none⟩ = some (.string x1) := cell_of_at HB4.out.dx (i := 0) rfl
  have d1 : w4.cell? ⟨w.heap.size + 1, 1, none⟩ = some (.string x2) := cell_of_at HB4.out.dx (i := 1) rfl
  have hget := rf_get fl i fl[i] (List.getElem?_eq_getElem hi)
  have g0 : w4.cell? ⟨g, i * 2, none⟩ = some (.string fl[i].1) := (HO4.out.cellAt (i * 2) (by omega)).trans hget.1
  have g1 : w4.cell? ⟨g, i * 2 + 1, none⟩ = some (.string fl[i].2) := (HO4.out.cellAt (i * 2 + 1) (by omega)).trans hget.2
  have f0 : w4.frozen? ⟨g, i * 2, none⟩ = false := HO4.out.frozenAt _
  have f1 : w4.frozen? ⟨g, i * 2 + 1, none⟩ = false := HO4.out.frozenAt _
  clear hget
  go_upto_region 3 with (fail)
  have hst1 := HO4.out.stored (i * 2) (.string x1)
  have hst2 := hst1.1.stored (i * 2 + 1) (.string x2)
  rw [rf_set fl i (x1, x2)] at hst2
  have HO5 := Lib.hid hst2.1
  have hg5 := grownBy_trans hst1.2 hst2.2
  have HB5 := Lib.hid (HB4.out.grown hg5 hg1)
  have hF5 : Fresh w ((w4.setCell ⟨g, i * 2, none⟩ (.string x1)).setCell ⟨g, i * 2 + 1, none⟩ (.string x2)) := Below.grown HF4.out hg5 HF4.out.size (fun k e => by cases e; omega)
  have HF5 := Lib.hid hF5
  clear hst1 hst2 hg5 hF5 g0 g1 f0 f1 p0 d0 d1 HO4 HB4 HF4
  generalize (w4.setCell ⟨g, i * 2, none⟩ (.string x1)).setCell ⟨g, i * 2 + 1, none⟩ (.string x2) = w5 at *
  have hr5 : RAt w5 ⟨fl.set i (x1, x2), nl, sl, wl, left, steps, down⟩ ⟨some ⟨g, 0, none⟩, cap, na, nc, sa, sc, wa, wc⟩ :=
    ⟨by rw [List.length_set]; exact own_mono HO5.out (Nat.zero_le _), HAT.out.now.move HF5.out, HAT.out.safe.move HF5.out, owns_move HAT.out.wait HF5.out⟩
  have hfar : RFar ⟨fl.set i (x1, x2), nl, sl, wl, left, steps, down⟩ ⟨some ⟨g, 0, none⟩, cap, na, nc, sa, sc, wa, wc⟩ w.heap.size :=
    ⟨fun k e => .inr (far_one hg1 e), fun k e => .inl (World.ownsRow.lt HAT.out.now k e).2, fun k e => .inl (World.ownsRow.lt HAT.out.safe k e).2, fun k e => .inl (World.ownsRow.lt HAT.out.wait k e).2⟩
  have HR5 := Lib.hid hr5
  have HFAR := Lib.hid hfar
  clear hr5 hfar
  obtain ⟨⟨p0, p1, p2, p3, p4, p5, p6⟩, _⟩ := (RBox.mk HB5.out.bx).cells
  have HRB : Hid (RBox w5 (w.heap.size + 1 + 1) _ _ _ _ _ _ _) := ⟨HB5.out.rx⟩
  obtain ⟨⟨s0, s1, s2, s3, s4, s5, s6⟩, ⟨t0, t1, t2, t3, t4, t5, t6⟩⟩ := HRB.out.cells
  go_wp2
  refine bodyPost_ret (v := .agg #[.slice (some ⟨g, 0, none⟩) fl.length cap, .slice na nl.length nc, .slice sa sl.length sc, .slice wa wl.length wc, .int .i64 left, .int .i64 steps, .bool down]) (by simp [results, Try.results39, go_sem, *]) rfl ?_
  refine ⟨⟨some ⟨g, 0, none⟩, cap, na, nc, sa, sc, wa, wc⟩, ?_, ?_, ?_⟩
  · show _ = Ending.returned (.agg #[.slice _ (fl.set i (x1, x2)).length _, _, _, _, _, _, _])
    rw [List.length_set]; rfl
  · exact HR5.out.set HFAR.out (box_set HRB.out _ _ _ _ _ _ _).2 (by omega)
  · repeat (refine Fresh.setCell ?_ (by simp; try omega) _)
    exact HF5.out
end Go.Proofs.Ytimcoofmemcojaa
